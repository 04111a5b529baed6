/-
  HKDF over bytes: tags in a chain, an expansion, a labelled secret.
  kdf.Extract, kdf.Expand.
  kdf.Label, kdf.Derive.
-/
import Derived.Test.YtgfljldegodpgaaDoorMacA
import Derived.Test.YtgfljldegodpgaaDoorPenA
import Derived.Test.YtgfljldegodpgaaDoorBase
namespace Go.Proofs.YtgfljldegodpgaaDoor
set_option linter.unusedVariables false
set_option linter.unusedSimpArgs false

/-- tag number j of an expansion; number 0 is empty -/
noncomputable def hkT (s i : List UInt8) : Nat → List UInt8
  | 0 => []
  | j + 1 => hmac s (hkT s i j ++ (i ++ [UInt8.ofNat (j + 1)]))

/-- the first j tags, one behind the other -/
noncomputable def hkOut (s i : List UInt8) : Nat → List UInt8
  | 0 => []
  | j + 1 => hkOut s i j ++ hkT s i (j + 1)

/-- how many tags n bytes need -/
def tagsOf (n : Nat) : Nat := (n + 31) / 32

noncomputable def hkdf (s i : List UInt8) (n : Nat) : List UInt8 := (hkOut s i (tagsOf n)).take n

theorem hkT_succ (s i : List UInt8) (j : Nat) : hkT s i (j + 1) = hmac s (hkT s i j ++ (i ++ [UInt8.ofNat (j + 1)])) := rfl
theorem hkOut_succ (s i : List UInt8) (j : Nat) : hkOut s i (j + 1) = hkOut s i j ++ hkT s i (j + 1) := rfl

theorem hkT_length (s i : List UInt8) (j : Nat) : (hkT s i j).length ≤ 32 := by
  cases j with
  | zero => simp [hkT]
  | succ j => rw [hkT_succ, hmac_length]; exact Nat.le_refl _

theorem hkOut_length (s i : List UInt8) (j : Nat) : (hkOut s i j).length = 32 * j := by
  induction j with
  | zero => rfl
  | succ j ih => rw [hkOut_succ, List.length_append, ih, hkT_succ, hmac_length]; omega

theorem hkdf_length (s i : List UInt8) (n : Nat) : (hkdf s i n).length = n := by
  unfold hkdf tagsOf
  rw [List.length_take, hkOut_length]; omega

theorem hkOut_take (s i : List UInt8) (j k n : Nat) (h : n ≤ 32 * j) : (hkOut s i (j + k)).take n = (hkOut s i j).take n := by
  induction k with
  | zero => rfl
  | succ k ih => rw [← Nat.add_assoc, hkOut_succ, List.take_append_of_le_length (by rw [hkOut_length]; omega), ih]

/-- fewer bytes are the beginning of more -/
theorem hkdf_take (s i : List UInt8) (n m : Nat) : (hkdf s i (n + m)).take n = hkdf s i n := by
  unfold hkdf
  rw [List.take_take, Nat.min_eq_left (by omega)]
  obtain ⟨k, hk⟩ : ∃ k, tagsOf (n + m) = tagsOf n + k := ⟨tagsOf (n + m) - tagsOf n, by unfold tagsOf; omega⟩
  rw [hk, hkOut_take s i (tagsOf n) k n (by unfold tagsOf; omega)]

/-- the four bytes ahead of every label -/
def mls : List UInt8 := [109, 108, 115, 32]

/-- the info of a labelled secret -/
def labelInfo (lab ctx : List UInt8) (n : Nat) : List UInt8 := (be 2 n ++ (be 1 (mls ++ lab).length ++ (mls ++ lab))) ++ (be 2 ctx.length ++ ctx)

noncomputable def labelled (s lab ctx : List UInt8) (n : Nat) : List UInt8 := hkdf s (labelInfo lab ctx n) n

theorem labelInfo_length (lab ctx : List UInt8) (n : Nat) : (labelInfo lab ctx n).length = lab.length + ctx.length + 9 := by
  unfold labelInfo mls
  simp only [List.length_append, be_length, List.length_cons, List.length_nil]
  omega

theorem labelled_length (s lab ctx : List UInt8) (n : Nat) : (labelled s lab ctx n).length = n := hkdf_length _ _ _

end Go.Proofs.YtgfljldegodpgaaDoor

namespace Go.Proofs.YtgfljldegodpgaaDoor
set_option linter.unusedVariables false
set_option linter.unusedSimpArgs false
open Go.RowKit

theorem u8_of_nat (m : Nat) : ((m : Int) % 256) = ((UInt8.ofNat m).toNat : Int) := by rw [UInt8.toNat_ofNat']; omega


/-- three slices of bytes in a new block -/
theorem RdL.made3 (w : World) (u v x : Value) (k l m : List UInt8) (e : TypeId) (hu : Rd w u k) (hv : Rd w v l) (hx : Rd w x m) : RdL (w.alloc (.cells #[u, v, x] e)) (.slice (some ⟨w.heap.size, 0, none⟩) 3 3) [(u, k), (v, l), (x, m)] :=
  ⟨RdV.made w [u, v, x] e (0, 0) (by simp), fun p hp => by
    have N : New w (w.alloc (.cells #[u, v, x] e)) := (Below.refl _ _).alloc (Nat.le_refl _) _
    rcases List.mem_cons.1 hp with rfl | hp
    · exact hu.new N
    · rcases List.mem_cons.1 hp with rfl | hp
      · exact hv.new N
      · rw [List.mem_singleton.1 hp]; exact hx.new N⟩

structure KexIn (w : World) (s i : List UInt8) (j : Nat) (vo vt : Value) (wr : World) : Prop where
  own : wr.ownsRow w.heap.size 5 1 vo (hkOut s i j).length ((hkOut s i j).map bv)
  tag : Rd wr vt (hkT s i j)
  new : New w wr

/-- mac.Tag(secret, tag, info, []byte{number}) as Expand writes it -/
theorem tag3 (w : World) (b c : Nat) (kv u v : Value) (k p q : List UInt8) (m : Nat) (z : Int) (hz : z = ((UInt8.ofNat m).toNat : Int)) (hb : b = w.heap.size) (hc : c = w.heap.size + 1) (hk : Rd w kv k) (hkl : k.length ≤ 1099511627776) (hu : Rd w u p) (hv : Rd w v q) (hl : p.length + q.length ≤ 1099511620000) (hL : Laid w) :
    Calls Tryd.prog 48 #[kv, .slice (some ⟨c, 0, none⟩) 3 3] ((w.alloc (.cells #[.int .u8 z] 5)).alloc (.cells #[u, v, .slice (some ⟨b, 0, none⟩) 1 1] 22)) (OwnRet w (hmac k (p ++ (q ++ [UInt8.ofNat m])))) := by
  subst hb hc
  have hn1 : New w (w.alloc (.cells #[.int .u8 z] 5)) := (Below.refl w.heap.size w).alloc (Nat.le_refl _) _
  have hn2 : New (w.alloc (.cells #[.int .u8 z] 5)) ((w.alloc (.cells #[.int .u8 z] 5)).alloc (.cells #[u, v, .slice (some ⟨w.heap.size, 0, none⟩) 1 1] 22)) := (Below.refl _ _).alloc (Nat.le_refl _) _
  have hn := New.trans hn1 hn2
  have hm := RdL.made3 (w.alloc (.cells #[.int .u8 z] 5)) u v (.slice (some ⟨w.heap.size, 0, none⟩) 1 1) p q [UInt8.ofNat m] 22 (hu.new hn1) (hv.new hn1) (rd_one w hz)
  rw [show (w.alloc (.cells #[.int .u8 z] 5)).heap.size = w.heap.size + 1 by simp] at hm
  have hs := macTag _ kv k _ _ (hk.new hn) hkl hm (by simp [allOf]; omega) (by simp) (hL.new hn)
  refine hs.mono ?_
  rintro e w' ⟨v', rfl, hown, hn'⟩
  simp only [allOf, List.flatMap_cons, List.flatMap_nil, List.append_nil] at hown
  exact ⟨v', rfl, own_base hown hn.size, New.trans hn hn'⟩

theorem Rd.grown {w w' : World} {v u : Value} {l : List UInt8} (h : Rd w v l) (hg : w.grownBy w' u.ownBlock) (ha : ∀ k, blk v = some k → l ≠ [] → some k ≠ u.ownBlock) : Rd w' v l :=
  h.of_block fun k hk hne => hg.block k (h.lt hk hne) (ha k hk hne)

theorem KexIn.next {w : World} {s i : List UInt8} {j : Nat} {vo vt : Value} {wr : World} (h : KexIn w s i j vo vt wr) {vt' vo' : Value} {w1 w2 : World} (ht : w1.ownsRow wr.heap.size 5 1 vt' (hkT s i (j + 1)).length ((hkT s i (j + 1)).map bv)) (N1 : New wr w1)
    (ho : w2.ownsRow w.heap.size 5 1 vo' ((hkOut s i j).length + (hkT s i (j + 1)).length) ((hkOut s i j).map bv ++ (hkT s i (j + 1)).map bv)) (hg : w1.grownBy w2 vo.ownBlock) : KexIn w s i (j + 1) vo' vt' w2 := by
  refine ⟨?_, (Rd.of_own ht).grown hg fun k hk hne e => ?_, Below.grown (New.trans h.new N1) hg (New.trans h.new N1).size (fun k hk => own_from h.own k (by rw [blk_own]; exact hk))⟩
  · rw [hkOut_succ, List.length_append, List.map_append]; exact ho
  · have h1 := (h.own.lt k e.symm).2
    have h2 := own_from ht k hk
    omega

theorem KexIn.own1 {w : World} {s i : List UInt8} {j : Nat} {vo vt : Value} {wr w1 : World} (h : KexIn w s i j vo vt wr) (N1 : New wr w1) : w1.ownsRow w.heap.size 5 1 vo (hkOut s i j).length ((hkOut s i j).map bv) := by
  refine ⟨h.own.1, ?_⟩
  rcases h.own.2 with h0 | ⟨g, cap, cur, e1, hb1, e3, rest⟩
  · exact .inl h0
  · exact .inr ⟨g, cap, cur, e1, hb1, (N1.block g (lt_of_block e3)).trans e3, rest⟩

def KexTo (w : World) (s i : List UInt8) (n : Int) (e : Ending) (w' : World) : Prop :=
  New w w' ∧ ((¬ (0 ≤ n ∧ n ≤ 8160) ∧ e = .returned (.tuple #[.slice none 0 0, .bool false])) ∨
    (0 ≤ n ∧ n ≤ 8160 ∧ ∃ a c, e = .returned (.tuple #[.slice a n.toNat c, .bool true]) ∧ Rd w' (.slice a n.toNat c) (hkdf s i n.toNat)))

set_option maxRecDepth 100000 in
set_option maxHeartbeats 1000000 in
theorem kdfExpand (w : World) (x y : Value) (s i : List UInt8) (n : Int) (hx : Rd w x s) (hsl : s.length ≤ 1099511627776) (hy : Rd w y i) (hil : i.length ≤ 1000000000) (hL : Laid w) :
    Calls Tryd.prog 44 #[x, y, .int .i64 n] w (KexTo w s i n) := by
  have hx' := hx
  have hy' := hy
  obtain ⟨ax, nx, cx, rfl, -⟩ := hx'
  obtain ⟨ay, ny, cy, rfl, -⟩ := hy'
  have HX := Lib.hid hx
  have HY := Lib.hid hy
  have HL := Lib.hid hL
  clear hx hy hL
  by_cases h0 : n < 0
  · have hd : decide (n < 0) = true := by simpa using h0
    go_enter Tryd.func44, Tryd.ntmps44
    go_wp2
    go_ret2
    exact ⟨Below.refl _ _, .inl ⟨by omega, rfl⟩⟩
  by_cases h1 : 8160 < n
  · have hd : decide (n < 0) = false := by simpa using h0
    have hd1 : decide (8160 < n) = true := by simpa using h1
    go_enter Tryd.func44, Tryd.ntmps44
    go_wp2
    go_ret2
    exact ⟨Below.refl _ _, .inl ⟨by omega, rfl⟩⟩
  have hd : decide (n < 0) = false := by simpa using h0
  have hd1 : decide (8160 < n) = false := by simpa using h1
  obtain ⟨i0, hi0, hz0, hz1, hz2⟩ := info_parts infoByte
  obtain ⟨m, rfl⟩ : ∃ m : Nat, n = m := ⟨n.toNat, by omega⟩
  have hm : m ≤ 8160 := by omega
  have h255 : tagsOf m ≤ 255 := by unfold tagsOf; omega
  have h31 : 32 * tagsOf m ≤ m + 31 ∧ m ≤ 32 * tagsOf m := by unfold tagsOf; omega
  have HH : Hid (hkdf s i m = (hkOut s i (tagsOf m)).take m) := rfl
  generalize tagsOf m = T at *
  go_enter Tryd.func44, Tryd.ntmps44
  go_wp2
  go_loopw [8, 9, 10] (fun vo vt num wr => ∃ j : Nat, j ≤ T ∧ num = .int .i64 ((j + 1 : Nat) : Int) ∧ KexIn w s i j vo vt wr) (fun _ _ i _ => 300 - (intOf i).toNat)
  case atStart => exact ⟨0, by omega, rfl, World.ownsRow_nil _ _ _ _, Rd.nil _, Below.refl _ _⟩
  case round =>
    obtain ⟨j, hj, rfl, hin⟩ := hrel
    have hro := Rd.of_own hin.own
    have hrt := hin.tag
    have hll := hkOut_length s i j
    obtain ⟨ao, no, co, rfl, hno, hnc, hcm, hna, -⟩ := hro
    obtain ⟨at_, nt, ct, rfl, -⟩ := hrt
    rw [hll] at hno
    have hll' := Lib.hid hll
    unfold maxLen at hcm
    have HI := Lib.hid hin
    clear hin hll
    by_cases hlt : no < m
    · have hd2 : decide ((no : Int) < (m : Int)) = true := by simp; omega
      have HT := Lib.hid (tag3 _ _ _ _ _ _ s (hkT s i j) i (j + 1) ((j : Int) + 1) (by rw [UInt8.toNat_ofNat']; omega) rfl rfl (HX.out.new HI.out.new) hsl HI.out.tag (HY.out.new HI.out.new) (by have := hkT_length s i j; omega) (HL.out.new HI.out.new))
      have HTL : Hid ((hkT s i (j + 1)).length = 32) := by show _ = _; rw [hkT_succ, hmac_length]
      go_wp2_with fail
      refine HT.out.mono ?_
      rintro e w1 ⟨v1, rfl, hown1, N1⟩
      rw [← hkT_succ] at hown1
      have hr1 := Rd.of_own hown1
      have hr1' := hr1
      obtain ⟨a1, n1, c1, rfl, -⟩ := hr1'
      have HO1 := Lib.hid hown1
      have HR1 := Lib.hid hr1
      clear hown1 hr1 HT
      go_wp2_with (at_builtin; refine wpList_append_bytes rfl _ _ 22 rfl w.heap.size 5 i0 _ Tryd.underlying22 hi0 hz0 hz1 hz2 rfl _ _ _ rfl (HI.out.own1 N1) _ (hkT s i (j + 1)) rfl HR1.out ?_ ?_ ?_)
      · rw [hll'.out, HTL.out]; omega
      · exact (New.trans HI.out.new N1).size
      · intro v' w' hown' hgrow hat
        have HO := Lib.hid (HI.out.next HO1.out N1 hown' hgrow)
        clear hown' hat hgrow
        go_wp2
        go_roundw
        case rel => exact ⟨j + 1, by omega, by go_num, HO.out⟩
        case measure => simp [intOf]; omega
    · have hd2 : decide ((no : Int) < (m : Int)) = false := by simp; omega
      obtain rfl : j = T := by omega
      have hmc : m ≤ co := by omega
      have hmi : (m : Int) ≤ (co : Int) := by omega
      go_wp2
      go_ret2
      refine ⟨HI.out.new, .inr ⟨by omega, by omega, ao, m, rfl, ?_⟩⟩
      rw [Int.toNat_natCast, HH.out]
      exact (Rd.of_own HI.out.own).cut (by omega) (Nat.le_refl _) hmc

end Go.Proofs.YtgfljldegodpgaaDoor

namespace Go.Proofs.YtgfljldegodpgaaDoor
set_option linter.unusedVariables false
set_option linter.unusedSimpArgs false
open Go.RowKit

/-- is there a labelled secret? -/
def labFits (lab ctx : List UInt8) (n : Int) : Prop := lab.length ≤ 251 ∧ ctx.length ≤ 65535 ∧ 0 ≤ n ∧ n ≤ 8160

def LabTo (w : World) (s lab ctx : List UInt8) (n : Int) (e : Ending) (w' : World) : Prop :=
  New w w' ∧ ((¬ labFits lab ctx n ∧ e = .returned (.tuple #[.slice none 0 0, .bool false])) ∨
    (labFits lab ctx n ∧ ∃ a c, e = .returned (.tuple #[.slice a n.toNat c, .bool true]) ∧ Rd w' (.slice a n.toNat c) (labelled s lab ctx n.toNat)))

theorem wU_none (size : Nat) (n : Int) : wU size n none = none := by unfold wU; split <;> rfl
theorem wText_none (size : Nat) (l : List UInt8) : wText size l none = none := by unfold wText; rw [wU_none]; rfl
theorem wU_out (size : Nat) (n : Int) (s : Option (List UInt8)) (h : ¬ (0 ≤ n ∧ n < 256 ^ size)) : wU size n s = none := by unfold wU; rw [if_neg h]
theorem wText_out (size : Nat) (l : List UInt8) (s : Option (List UInt8)) (h : ¬ l.length < 256 ^ size) : wText size l s = none := by
  unfold wText
  rw [wU_out _ _ _ (fun hh => h (by have h2 := hh.2; rw [show (256 : Int) ^ size = ((256 ^ size : Nat) : Int) by simp] at h2; exact Int.ofNat_lt.1 h2))]
  rfl

/-- what the writer of Label holds at its end -/
def labS (lab ctx : List UInt8) (n : Int) : Option (List UInt8) := wText 2 ctx (wText 1 (mls ++ lab) (wU 2 n (some [])))

theorem labS_in (lab ctx : List UInt8) (n : Nat) (h1 : lab.length ≤ 251) (h2 : ctx.length ≤ 65535) (h3 : n < 65536) : labS lab ctx n = some (labelInfo lab ctx n) := by
  unfold labS labelInfo
  rw [wU_in 2 n [] (by simpa using h3), wText_in 1 _ _ (by unfold mls; simp; omega), wText_in 2 _ _ (by simp; omega)]
  rfl

theorem labS_out (lab ctx : List UInt8) (n : Int) (h : ¬ (lab.length ≤ 251 ∧ ctx.length ≤ 65535 ∧ 0 ≤ n ∧ n < 65536)) : labS lab ctx n = none := by
  unfold labS
  by_cases h1 : 0 ≤ n ∧ n < 65536
  · by_cases h2 : lab.length ≤ 251
    · rw [wText_out 2 ctx _ (by simp; omega)]
    · rw [wText_out 1 (mls ++ lab) _ (by unfold mls; simp; omega), wText_none]
  · rw [wU_out 2 n _ (by simpa using h1), wText_none, wText_none]

theorem fit_wU (size : Nat) (n : Int) (s : Option (List UInt8)) (k b : Nat) (h : ∀ l, s = some l → l.length ≤ b) : ∀ l, wU size n s = some l → l.length ≤ b + size := by
  intro l hl
  unfold wU at hl
  split at hl
  · cases s with
    | none => cases hl
    | some m => cases hl; have := h m rfl; simp [be_length]; omega
  · cases hl

theorem fit_wText (size : Nat) (t : List UInt8) (s : Option (List UInt8)) (b : Nat) (h : ∀ l, s = some l → l.length ≤ b) : ∀ l, wText size t s = some l → l.length ≤ b + size + t.length := by
  intro l hl
  unfold wText at hl
  cases hu : wU size t.length s with
  | none => rw [hu] at hl; cases hl
  | some m => rw [hu] at hl; cases hl; have := fit_wU size t.length s 0 b h m hu; simp; omega

set_option maxRecDepth 100000 in
set_option maxHeartbeats 1000000 in
theorem kdfLabel (w : World) (x y : Value) (s lab ctx : List UInt8) (n : Int) (hn0 : -9223372036854775808 ≤ n) (hn1 : n ≤ 9223372036854775807) (hx : Rd w x s) (hsl : s.length ≤ 1099511627776) (hll : lab.length ≤ 100000) (hy : Rd w y ctx) (hcl : ctx.length ≤ 100000) (hL : Laid w) :
    Calls Tryd.prog 30 #[x, .string (bstr lab), y, .int .i64 n] w (LabTo w s lab ctx n) := by
  have hx' := hx
  have hy' := hy
  obtain ⟨ax, nx, cx, rfl, -⟩ := hx'
  obtain ⟨ay, ny, cy, rfl, -⟩ := hy'
  have HX := Lib.hid hx
  have HY := Lib.hid hy
  have HL := Lib.hid hL
  clear hx hy hL
  have z1 : (bstr lab).size ≤ 100000 := by rw [bstr_size]; exact hll
  have jm : (⟨#[109, 108, 115, 32]⟩ : ByteArray) ++ bstr lab = bstr (mls ++ lab) := by unfold bstr; rw [ByteArray.mk_append_mk]; rfl
  have hml : (mls ++ lab).length = 4 + lab.length := by unfold mls; simp; omega
  have HS : Hid (labS lab ctx n = wText 2 ctx (wText 1 (mls ++ lab) (wU 2 n (some [])))) := rfl
  have F1 : Hid (∀ l, wU 2 n (some []) = some l → l.length ≤ 2) := by have := fit_wU 2 n (some []) 0 0 (by intro l h; cases h; simp); exact Lib.hid (by simpa using this)
  have F2 : Hid (∀ l, wText 1 (mls ++ lab) (wU 2 n (some [])) = some l → l.length ≤ 200000) := fun l h => by have := fit_wText 1 _ _ 2 F1.out l h; omega
  have F3 : Hid (∀ l, labS lab ctx n = some l → l.length ≤ 400000) := fun l h => by have := fit_wText 2 _ _ 200000 F2.out l h; omega
  generalize hS1 : wU 2 n (some []) = S1 at *
  generalize hS2 : wText 1 (mls ++ lab) S1 = S2 at *
  go_enter Tryd.func30, Tryd.ntmps30
  go_wp2_with fail
  refine (penNew w).mono ?_
  rintro e w1 ⟨rfl, hp1, N1, -⟩
  have P1 := Lib.hid (Pend.start hp1 N1)
  clear hp1
  go_wp2_with fail
  refine (pendU16 P1.out n hn0 hn1 (fun l h => by cases h; simp)).mono ?_
  rintro e w2 ⟨rfl, p2⟩
  rw [hS1] at p2
  have P2 := Lib.hid p2
  clear p2 P1
  have hcv := Lib.run_convert_string_bytes (P := Tryd.prog) w2 9 22 5 (bstr (mls ++ lab)) Tryd.underlying9 Tryd.underlying22 Tryd.underlying5
  obtain ⟨hob, hnb⟩ := ownB_of_string w2 5 (mls ++ lab) (by omega)
  rw [bstr_size] at hcv hob
  generalize grownCap w2 (mls ++ lab).length 0 5 = c0 at hcv hob
  generalize Lib.bytesWorld w2 5 (bstr (mls ++ lab)) = wb at hcv hob hnb
  have HOB := Lib.hid hob
  clear hob
  have HFit : Hid (Fit S1 ((mls ++ lab).length + 8)) := fun l h => by have := F1.out l h; omega
  have HPS := Lib.hid (pendShortNew P2.out hnb _ (mls ++ lab) HOB.out.rd (fun _ k hk => HOB.out.from k hk) HFit.out)
  clear HOB hml HFit
  generalize (mls ++ lab).length = lm at *
  go_wp2_with fail
  refine HPS.out.mono ?_
  rintro e w3 ⟨rfl, p3⟩
  rw [hS2] at p3
  have P3 := Lib.hid p3
  clear p3 P2 hcv HPS
  go_wp2_with fail
  refine (pendLong P3.out _ ctx HY.out (fun l h => by have := F2.out l h; omega)).mono ?_
  rintro e w4 ⟨rfl, p4⟩
  rw [← HS.out] at p4
  have P4 := Lib.hid p4
  clear p4 P3
  go_wp2_with fail
  refine (pendBytes P4.out (fun l h => by have := F3.out l h; omega)).mono ?_
  rintro e w5 ⟨⟨a5, n5, c5, rfl, r5, N5, -⟩, p5⟩
  have N5w := p5.1
  clear p5
  have R5 := Lib.hid r5
  clear r5
  by_cases hf : lab.length ≤ 251 ∧ ctx.length ≤ 65535 ∧ 0 ≤ n ∧ n < 65536
  · obtain ⟨m, rfl⟩ : ∃ m : Nat, n = m := ⟨n.toNat, by omega⟩
    have HE := Lib.hid (labS_in lab ctx m hf.1 hf.2.1 (by omega))
    rw [HE.out] at R5 ⊢
    simp only [Option.getD_some, Option.isSome_some] at R5 ⊢
    have HK := Lib.hid (kdfExpand w5 _ _ s (labelInfo lab ctx m) m (HX.out.new N5w) hsl R5.out (by rw [labelInfo_length]; omega) (HL.out.new N5w))
    have HLB : Hid (labelled s lab ctx m = hkdf s (labelInfo lab ctx m) m) := rfl
    generalize labelInfo lab ctx m = I at *
    go_wp2_with fail
    refine HK.out.mono ?_
    rintro e w6 ⟨N6, ⟨hno, rfl⟩ | ⟨h0, h1, a6, c6, rfl, r6⟩⟩
    · go_wp2
      go_ret2
      exact ⟨New.trans N5w N6, .inl ⟨fun hh => hno hh.2.2, rfl⟩⟩
    · have R6 := Lib.hid r6
      clear r6
      simp only [Int.toNat_natCast] at R6 ⊢
      go_wp2
      go_ret2
      refine ⟨New.trans N5w N6, .inr ⟨⟨hf.1, hf.2.1, h0, h1⟩, a6, c6, rfl, ?_⟩⟩
      rw [Int.toNat_natCast, HLB.out]
      exact R6.out
  · have HE := Lib.hid (labS_out lab ctx n hf)
    rw [HE.out] at R5 ⊢
    simp only [Option.getD_none, Option.isSome_none] at R5 ⊢
    go_wp2
    go_ret2
    exact ⟨N5w, .inl ⟨fun hh => hf ⟨hh.1, hh.2.1, hh.2.2.1, by have := hh.2.2.2; omega⟩, rfl⟩⟩

theorem bstr_take (l : List UInt8) (n : Nat) : (bstr l).extract 0 n = bstr (l.take n) := by
  apply ByteArray.ext
  simp [bstr]


end Go.Proofs.YtgfljldegodpgaaDoor
