/-
  keys: load, Open: what the statements want of the program, all of it.
-/
import Derived.Test.YtnekcdpfphgpbaaKeyExm
namespace Go.Proofs.Ytnekcdpfphgpbaa
set_option linter.unusedVariables false
set_option linter.unusedSimpArgs false
set_option maxRecDepth 100000
open Go.RowKit

theorem sec_secsN {l : List UInt8} {s m i : Nat} (h : i < m) : sec (secs l s m) i = sec l (s + i) := by
  unfold sec secs
  rw [List.drop_take, List.drop_drop, List.take_take, Nat.min_eq_left (by omega), show 128 * s + 128 * i = 128 * (s + i) by omega]

theorem kFind_pad (L : List KSlot) (j b : Nat) : kFind (L ++ List.replicate j none) b = none ↔ kFind L b = none := by
  unfold kFind
  rw [List.findIdx?_eq_none_iff, List.findIdx?_eq_none_iff]
  constructor
  · exact fun h x hx => h x (List.mem_append_left _ hx)
  · intro h x hx
    rcases List.mem_append.1 hx with hx | hx
    · exact h x hx
    · rw [List.eq_of_mem_replicate hx]; rfl

theorem kGot_pad (L : List KSlot) (j : Nat) (f : List UInt8) : kGot (L ++ List.replicate j none) f = kGot L f := by
  unfold kGot
  cases keyDec f with
  | none => rfl
  | some p =>
    show (if kFind (L ++ List.replicate j none) p.1 = none then some p else none) = if kFind L p.1 = none then some p else none
    by_cases h : kFind L p.1 = none
    · rw [if_pos h, if_pos ((kFind_pad L j p.1).2 h)]
    · rw [if_neg h, if_neg (fun h2 => h ((kFind_pad L j p.1).1 h2))]

/-- what the loop of load has of the table -/
def ldT (D : List UInt8) (frm m k : Nat) : List KSlot := kOpenT D frm k ++ List.replicate (m - k) none

theorem ldT_length (D : List UInt8) (frm m k : Nat) (h : k ≤ m) : (ldT D frm m k).length = m := by
  unfold ldT; rw [List.length_append, kOpenT_length, List.length_replicate]; omega

theorem ldT_at (D : List UInt8) (frm m k : Nat) (h : k < m) : (ldT D frm m k)[k]? = some none := by
  unfold ldT
  rw [List.getElem?_append_right (by rw [kOpenT_length]; omega), kOpenT_length, Nat.sub_self, List.getElem?_replicate, if_pos (by omega)]

theorem ldT_next (D : List UInt8) (frm m k : Nat) (h : k < m) : (ldT D frm m k).set k (kGot (ldT D frm m k) (sec D (frm + 2 * k))) = ldT D frm m (k + 1) := by
  unfold ldT
  rw [kGot_pad, List.set_append, if_neg (by rw [kOpenT_length]; omega), kOpenT_length, Nat.sub_self, show m - k = (m - (k + 1)) + 1 by omega, List.replicate_succ, List.set_cons_zero]
  show _ = (kOpenT D frm k ++ [kGot (kOpenT D frm k) (sec D (frm + 2 * k))]) ++ _
  rw [List.append_assoc]
  rfl

theorem ldT_end (D : List UInt8) (frm m : Nat) : ldT D frm m m = kOpenT D frm m := by
  unfold ldT; rw [Nat.sub_self, List.replicate_zero, List.append_nil]

structure LdIn (w : World) (n g : Nat) (F G : Nat → Prop) (p sl frm m : Nat) (D : List UInt8) (gk k : Nat) (wr : World) : Prop where
  km : k ≤ m
  tab : KTab wr F p sl g frm (ldT D frm m k) false
  only : Only (fun k => G k ∨ k = sl) w wr
  row : RowB wr gk (secs D frm (2 * m))
  dev : ∃ Dk, Dvc (-1) wr n g (fun j => (G j ∨ w.heap.size ≤ j) ∧ j ≠ gk) Dk Dk [] ∧ (∀ t, frm + 2 * k ≤ t → sec Dk t = sec D t) ∧ KOn frm (kOpenT D frm k) Dk

theorem LdIn.next {w : World} {n g : Nat} {F G G' : Nat → Prop} {p sl frm m : Nat} {D Dk : List UInt8} {gk k : Nat} {wr w' : World} {e : Ending} (h : LdIn w n g F G p sl frm m D gk k wr) (hk : k < m) (hG : ∀ j, G' j → ((G j ∨ w.heap.size ≤ j) ∧ j ≠ gk) ∧ j < wr.heap.size) (hgs : gk ≠ sl)
    (hs : ∀ t, frm + 2 * k ≤ t → sec Dk t = sec D t) (ho : KOn frm (kOpenT D frm k) Dk)
    (hx : ExTo wr n g F G' p sl frm (ldT D frm m k) Dk k (kGot (ldT D frm m k) (sec D (frm + 2 * k))) e w') : LdIn w n g F G p sl frm m D gk (k + 1) w' := by
  have hgot : kGot (ldT D frm m k) (sec D (frm + 2 * k)) = kGot (kOpenT D frm k) (sec D (frm + 2 * k)) := kGot_pad _ _ _
  obtain ⟨D', hd, hsec⟩ := hx.dev
  have ht := hx.tab
  rw [ldT_next D frm m k hk] at ht
  refine ⟨by omega, ht, h.only.trans hx.only (fun j hj hg => hg.elim (fun h1 => (hG j h1).1.1.elim .inl (fun h2 => by omega)) .inr), h.row.same (hx.only.block gk h.row.lt (fun hg => hg.elim (fun h1 => (hG gk h1).1.2 rfl) hgs)), D', hd.narrow (fun j _ hj => hj.elim (fun h1 => (hG j h1).1) (fun h1 => ⟨.inr (Nat.le_trans h.only.size h1), fun e => by subst e; have := h.row.lt; omega⟩)), fun t ht => ?_, fun j s hj => ?_⟩
  · rw [hsec, if_neg (by omega), hs t (by omega)]
  · have hj2 : (kOpenT D frm k ++ [kGot (kOpenT D frm k) (sec D (frm + 2 * k))])[j]? = some s := hj
    rw [List.getElem?_append, kOpenT_length] at hj2
    split at hj2
    · rename_i hlt
      rw [hsec, hsec, if_neg (by omega), if_neg (by omega)]
      exact ho j s hj2
    · rename_i hge
      have hjk : j = k := by
        rcases Nat.eq_or_lt_of_le (Nat.le_of_not_lt hge) with h1 | h1
        · exact h1.symm
        · rw [List.getElem?_eq_none (by simp; omega)] at hj2; cases hj2
      subst hjk
      rw [Nat.sub_self, List.getElem?_cons_zero] at hj2
      cases hj2
      rw [hsec, hsec, if_pos (.inl rfl), if_pos (.inr rfl), hgot]
      exact ⟨rfl, rfl⟩

def Lc012 (p : Nat) (a b c : Value) (w : World) : Prop := w.cell? ⟨p, 0, none⟩ = some a ∧ w.cell? ⟨p, 1, none⟩ = some b ∧ w.cell? ⟨p, 2, none⟩ = some c

structure LdTo (w : World) (n g : Nat) (F G : Nat → Prop) (p sl frm m : Nat) (D : List UInt8) (e : Ending) (w' : World) : Prop where
  ret : e = .returned .nilIface
  tab : KTab w' F p sl g frm (kOpenT D frm m) false
  only : Only (fun k => G k ∨ k = sl) w w'
  dev : ∃ D', Dvc (-1) w' n g (fun k => G k ∨ w.heap.size ≤ k) D' D' [] ∧ KOn frm (kOpenT D frm m) D'

theorem LdIn.fin {w : World} {n g : Nat} {F G : Nat → Prop} {p sl frm m : Nat} {D : List UInt8} {gk : Nat} {wr : World} (h : LdIn w n g F G p sl frm m D gk m wr) : LdTo w n g F G p sl frm m D (.returned .nilIface) wr := by
  obtain ⟨Dk, hd, -, ho⟩ := h.dev
  have ht := h.tab
  rw [ldT_end] at ht
  exact ⟨rfl, ht, h.only, Dk, hd.narrow (fun j _ hj => hj.1), ho⟩

set_option maxHeartbeats 4000000 in
theorem keyLoad {w : World} {n g : Nat} {F G : Nat → Prop} {p sl frm m : Nat} {D : List UInt8} (ht : KTab w F p sl g frm (List.replicate m none) false) (hd : Dvc (-1) w n g G D D []) (hF : ∀ k, F k → k < w.heap.size) (hG : ∀ k, G k → k < w.heap.size) (hFG : ∀ k, F k → ¬ G k)
    (hm : 1 ≤ m ∧ m ≤ 64) (hfit : frm + 2 * m ≤ n) :
    Calls Try.prog 25 #[.pointer (some ⟨p, 0, none⟩)] w (LdTo w n g F G p sl frm m D) := by
  have HLN : Hid (D.length = 128 * n ∧ n ≤ 65536) := Lib.hid ⟨hd.lens.1, by obtain ⟨_, _, _, _, _, hd, -⟩ := hd; exact hd.few.2⟩
  obtain ⟨M, hM⟩ : ∃ M, 2 * m = M := ⟨_, rfl⟩
  have HMM := Lib.hid hM
  have N1 : New w w.drew := (Below.refl _ _).drew
  have HT1 := Lib.hid (ht.new N1)
  have HRd := Lib.hid (devReadRow (hd.new N1) (by decide) frm M (by omega) (by omega))
  have HFG : Hid ((∀ k, F k → k < w.heap.size) ∧ (∀ k, G k → k < w.heap.size) ∧ (∀ k, F k → ¬ G k)) := Lib.hid ⟨hF, hG, hFG⟩
  have HP : Hid (1 ≤ m ∧ m ≤ 64 ∧ frm + 2 * m ≤ n) := Lib.hid ⟨hm.1, hm.2, hfit⟩
  have hw1 : IntKind.i64.wrap (2 * (m : Int)) = (M : Int) := by rw [IntWalk.i64_in _ (by omega)]; omega
  have HC : Hid (Lc012 p (.pointer (some ⟨g, 0, none⟩)) (.int .i64 (frm : Int)) (.slice (some ⟨sl, 0, none⟩) m m) w.drew) := Lib.hid (by
    obtain ⟨x0, x1, x2, -⟩ := HT1.out.at_.cells
    rw [List.length_replicate] at x2
    exact ⟨x0, x1, x2⟩)
  obtain ⟨nB, HnB⟩ : ∃ nB, Hid (128 * M = nB) := ⟨_, Lib.hid rfl⟩
  clear hd ht hF hG hFG hm hfit hM
  go_enter Try.func25, Try.ntmps25
  go_upto_region 1 with fail
  refine region_ord (Lc012 p (.pointer (some ⟨g, 0, none⟩)) (.int .i64 (frm : Int)) (.slice (some ⟨sl, 0, none⟩) m m)) [(0, true), (1, true), (2, true), (3, true), (4, true), (5, true), (6, true), (7, true), (8, true), (9, true), (10, true), (11, true), (12, true), (13, true), (14, false), (15, true), (16, true), (17, true), (18, true), (19, true)] (by kernel_rfl) (by kernel_rfl) HC.out (fun _ => ?_)
  generalize w.drew = w0 at *
  unfold Lc012
  iterate 14 (apply ord_take; (simp only [List.getElem?_toArray, List.getElem?_cons_succ, List.getElem?_cons_zero]; rfl); rfl; (intro w hSw; (try dsimp only at hSw); go_simp; try with_reducible rfl); intro _; try simp only [Act.put, List.setIfInBounds_toArray, List.set_cons_zero, List.set_cons_succ])
  (apply ord_only; (simp only [List.getElem?_toArray, List.getElem?_cons_succ, List.getElem?_cons_zero]; rfl); rfl; intro K hK)
  go_simp
  refine HRd.out.mono ?_
  rintro _ w1 ⟨gk, c, rfl, hr, hc1, hc2, hk, hd, ho⟩
  rw [HnB.out]
  have hgk0 : w.heap.size ≤ gk := Nat.le_trans N1.size hk
  have HGK : Hid (w.heap.size ≤ gk ∧ 128 * M ≤ c ∧ c ≤ maxLen) := Lib.hid ⟨hgk0, hc1, hc2⟩
  have HT2 : KTab w1 F p sl g frm (List.replicate m none) false := HT1.out.only ho HFG.out.2.2
  have HI0 : Hid (LdIn w n g F G p sl frm m D gk 0 w1) := Lib.hid (by
    refine ⟨Nat.zero_le _, HT2, (New.only (F := fun k => G k ∨ k = sl) N1).trans (ho.mono (fun k _ hk => .inl hk)) (fun _ _ h => h), by rw [HMM.out]; exact hr, D, hd.narrow (fun j _ hj => ⟨hj.1.elim .inl (fun h => .inr (Nat.le_trans N1.size h)), hj.2⟩), fun t _ => rfl, fun j s hj => by simp [kOpenT] at hj⟩)
  have HC1 : Hid (Lc012 p (.pointer (some ⟨g, 0, none⟩)) (.int .i64 (frm : Int)) (.slice (some ⟨sl, 0, none⟩) m m) w1) := Lib.hid (by
    obtain ⟨x0, x1, x2, -⟩ := HT2.at_.cells
    rw [List.length_replicate] at x2
    exact ⟨x0, x1, x2⟩)
  clear hr hc1 hc2 hk hd ho HC HRd HT1 HT2 hgk0 N1
  refine hK.out _ _ (HC1.out) (fun _ => ?_)
  clear hK K
  try simp only [Act.put, List.setIfInBounds_toArray, List.set_cons_zero, List.set_cons_succ]
  iterate 5 (apply ord_take; (simp only [List.getElem?_toArray, List.getElem?_cons_succ, List.getElem?_cons_zero]; rfl); rfl; (intro w hSw; (try dsimp only at hSw); go_simp; try with_reducible rfl); intro _; try simp only [Act.put, List.setIfInBounds_toArray, List.set_cons_zero, List.set_cons_succ])
  apply ord_done
  have x2 := HC1.out.2.2
  go_upto_region 5 with fail
  clear x2 HC1 hw1
  go_loopw [36] (fun v wr => ∃ k : Nat, v = .int .i64 k ∧ LdIn w n g F G p sl frm m D gk k wr) (fun v _ => m - (intOf v).toNat)
  case atStart => exact ⟨0, rfl, HI0.out⟩
  case round =>
    clear HI0
    obtain ⟨k, rfl, hin⟩ := hrel
    have HI := Lib.hid hin
    clear hin
    by_cases hkm : k < m
    · have d : decide ((k : Int) < (m : Int)) = true := by simpa using hkm
      obtain ⟨Dk, hdk, hsk, hok⟩ := HI.out.dev
      have hlt := HI.out.row.lt
      have hsz := HI.out.only.size
      obtain ⟨k2, hk2⟩ : ∃ x, 2 * k = x := ⟨_, rfl⟩
      have hk2i : 2 * (k : Int) = (k2 : Int) := by omega
      have HS1 := Lib.hid (keySector wr gk M c k2 (by have := HMM.out; omega) (by have := HMM.out; have := HP.out; omega) HGK.out.2.1 HGK.out.2.2)
      have HS2 := Lib.hid (keySector wr gk M c (k2 + 1) (by have := HMM.out; omega) (by have := HMM.out; have := HP.out; omega) HGK.out.2.1 HGK.out.2.2)
      rw [show ((k2 + 1 : Nat) : Int) = (k2 : Int) + 1 by omega] at HS2
      rw [HnB.out] at HS1 HS2
      have hrow := HI.out.row
      have hBl : (secs D frm (2 * m)).length = 128 * (2 * m) := secs_length (by have := HLN.out; have := HP.out; omega)
      have hr1 : Rd wr (.slice (some ⟨gk, 128 * k2, none⟩) 128 (c - 128 * k2)) (sec D (frm + 2 * k)) := by
        have h1 := hrow.rdSec (s := k2) (c := c - 128 * k2) (by rw [hBl]; omega) (by have := HGK.out; have := HMM.out; omega) (by have := HGK.out.2.2; omega)
        rw [sec_secsN (by omega)] at h1
        rw [show frm + 2 * k = frm + k2 by omega]
        exact h1
      have hr2 : Rd wr (.slice (some ⟨gk, 128 * (k2 + 1), none⟩) 128 (c - 128 * (k2 + 1))) (sec D (frm + 2 * k + 1)) := by
        have h1 := hrow.rdSec (s := k2 + 1) (c := c - 128 * (k2 + 1)) (by rw [hBl]; omega) (by have := HGK.out; have := HMM.out; omega) (by have := HGK.out.2.2; omega)
        rw [sec_secsN (by omega)] at h1
        rw [show frm + 2 * k + 1 = frm + (k2 + 1) by omega]
        exact h1
      have hgs : gk ≠ sl := by have := HFG.out.1 _ HI.out.tab.fs; have := HGK.out.1; omega
      have HEX := Lib.hid (keyExamine (G := fun j => ((G j ∨ w.heap.size ≤ j) ∧ j ≠ gk) ∧ j < wr.heap.size) HI.out.tab (hdk.narrow (fun j hj hg => ⟨hg, hj⟩)) (fun j hj => by have := HFG.out.1 j hj; omega) (fun j hj => hj.2) (fun j hj hg => hg.1.1.elim (HFG.out.2.2 j hj) (fun h => by have := HFG.out.1 j hj; omega)) k (ldT_at D frm m k hkm) (by have := HP.out.2.2; omega) gk (128 * k2) (128 * (k2 + 1)) (c - 128 * k2) (c - 128 * (k2 + 1)) _ _ hr1 hr2 hlt hgs (hsk _ (by omega)) (hsk _ (by omega)))
      have HNX : Hid (∀ e w', ExTo wr n g F (fun j => ((G j ∨ w.heap.size ≤ j) ∧ j ≠ gk) ∧ j < wr.heap.size) p sl frm (ldT D frm m k) Dk k (kGot (ldT D frm m k) (sec D (frm + 2 * k))) e w' → LdIn w n g F G p sl frm m D gk (k + 1) w') := Lib.hid (fun e w' hx => HI.out.next hkm (fun j hj => hj) hgs hsk hok hx)
      have HK := Lib.hid hkm
      have hm64 := HP.out.2.1
      obtain ⟨o1, ho1⟩ : ∃ x, 128 * k2 = x := ⟨_, rfl⟩
      obtain ⟨o2, ho2⟩ : ∃ x, 128 * (k2 + 1) = x := ⟨_, rfl⟩
      rw [ho1] at HS1 HEX
      rw [ho2] at HS2 HEX
      obtain ⟨c1, hc1⟩ : ∃ x, c - o1 = x := ⟨_, rfl⟩
      obtain ⟨c2, hc2⟩ : ∃ x, c - o2 = x := ⟨_, rfl⟩
      rw [hc1] at HS1 HEX
      rw [hc2] at HS2 HEX
      clear hdk hsk hok hlt hsz hk2 hrow hBl hr1 hr2 hgs ho1 ho2 hc1 hc2
      go_wp2_with fail
      refine HS1.out.mono ?_
      rintro _ w2 ⟨rfl, rfl⟩
      go_wp2_with fail
      refine HS2.out.mono ?_
      rintro _ w2 ⟨rfl, rfl⟩
      clear HS1 HS2
      go_wp2_with fail
      refine HEX.out.mono ?_
      rintro _ w2 hx
      obtain rfl := hx.ret
      have HN := Lib.hid (HNX.out _ _ hx)
      clear hx HEX HNX
      go_wp2_with fail
      go_roundw
      case measure => have := HK.out; simp [intOf]; omega
      case rel => exact ⟨k + 1, by go_num, HN.out⟩
    · obtain rfl : k = m := by have := HI.out.km; omega
      clear hkm
      go_wp2
      go_ret
      exact HI.out.fin

theorem infoSlFull : (Try.prog.info? 71).map (fun i => (i.zero.map Value.cells, i.size, i.bytes)) = some (some (sCells none).toArray, 34, 48) := by kernel_rfl

/-- make([]slot, m) -/
theorem run_makeSlots (m : Nat) (hm : m ≤ 64) (wx : World) :
    (Instr.makeSlice 61 (.int .i64 (m : Int)) (.int .i64 (m : Int))).run Try.prog wx = .ok (.slice (some ⟨wx.heap.size, 0, none⟩) m m) (wx.alloc (.cells (lCells (List.replicate m none)).toArray 71)) := by
  have h := infoSlFull
  cases hi : Try.prog.info? 71 with
  | none => rw [hi] at h; cases h
  | some i =>
    rw [hi] at h
    simp only [Option.map_some, Option.some.injEq, Prod.mk.injEq] at h
    obtain ⟨h1, h2, h3⟩ := h
    cases hz : i.zero with
    | none => rw [hz] at h1; cases h1
    | some z =>
      rw [hz] at h1
      simp only [Option.map_some, Option.some.injEq] at h1
      have hr := run_make (P := Try.prog) wx 61 71 i z Try.underlying61 hi hz .i64 .i64 (m : Int) (m : Int) (by omega) (by omega) (by rw [h3]; omega) (by omega)
      rw [hr]
      simp only [Int.toNat_natCast]
      congr 3
      have hok : ∀ s ∈ (List.replicate m none : List KSlot), KSlot.ok s := fun s hs => by rw [List.eq_of_mem_replicate hs]; intro p hp; cases hp
      have hl := lCells_length hok
      rw [List.length_replicate] at hl
      have hs34 : (sCells none).length = 34 := sCells_length (fun p hp => by cases hp)
      rw [h1, h2]
      apply Array.ext
      · rw [size_madeCells, List.size_toArray, hl, Nat.mul_comm]
      · intro j hj1 hj2
        rw [size_madeCells] at hj1
        have e : j = j / 34 * 34 + j % 34 := by omega
        have hq : j % 34 < 34 := Nat.mod_lt _ (by decide)
        have hg := lCells_get hok (i := j / 34) (s := none) (by rw [List.getElem?_replicate, if_pos (by omega)]) (j % 34) hq
        rw [← e] at hg
        have h34 : j % 34 < (sCells none).length := by rw [hs34]; exact hq
        rw [List.getElem?_eq_getElem h34, List.getElem?_eq_getElem (by rw [hl]; omega), Option.some.injEq] at hg
        unfold madeCells
        simp only [Array.getElem_map, Array.getElem_range, List.size_toArray, hs34, List.getElem_toArray]
        rw [hg]
        simp [h34]

set_option maxHeartbeats 2000000 in
theorem keyOpen {w : World} {n g : Nat} {F : Nat → Prop} {D : List UInt8} (hd : Dvc (-1) w n g F D D []) (frm m : Nat) (h1 : 1 ≤ m) (h64 : m ≤ 64) (hfit : frm + 2 * m ≤ n) :
    Calls Try.prog 8 #[.pointer (some ⟨g, 0, none⟩), .int .i64 (frm : Int), .int .i64 (m : Int)] w fun e w' => ∃ p D', e = .returned (.tuple #[.pointer (some ⟨p, 0, none⟩), .nilIface]) ∧ KDTo KMk (-1) w F p g frm (kOpenT D frm m) false n D' D' [] w' ∧ KOn frm (kOpenT D frm m) D' := by
  have HD : Hid (Dvc (-1) w n g (fun k => F k ∧ k < w.heap.size) D D []) := Lib.hid (hd.narrow (fun k hk hf => ⟨hf, hk⟩))
  have HP : Hid (1 ≤ m ∧ m ≤ 64 ∧ frm + 2 * m ≤ n) := Lib.hid ⟨h1, h64, hfit⟩
  have HW := Lib.hid (keyWithin w (m : Int) 1 64)
  have hdc : decide (1 ≤ (m : Int) ∧ (m : Int) ≤ 64) = true := by simp; omega
  rw [hdc] at HW
  have hmk := run_makeSlots m h64
  clear hd h1 h64 hfit hdc
  go_enter Try.func8, Try.ntmps8
  go_wp2_with fail
  refine HW.out.mono ?_
  rintro _ w1 ⟨rfl, rfl⟩
  clear HW
  go_upto_region 6 with fail
  generalize hw1 : World.alloc w _ = w1
  generalize hw2 : World.alloc w1 _ = w2
  have hs1 : w1.heap.size = w.heap.size + 1 := by rw [← hw1]; simp
  have hs2 : w2.heap.size = w.heap.size + 1 + 1 := by rw [← hw2]; simp [hs1]
  have N1 : New w w1 := by rw [← hw1]; exact (Below.refl _ _).alloc (Nat.le_refl _) _
  have N2 : New w1 w2 := by rw [← hw2]; exact (Below.refl _ _).alloc (Nat.le_refl _) _
  have hsl : AtN w2 w.heap.size 71 (lCells (List.replicate m none)) := AtN.new (w := w1) (by rw [← hw1]; exact heap_alloc_new _ _) N2
  have hat : At4 w2 (w.heap.size + 1) 63 (.pointer (some ⟨g, 0, none⟩)) (.int .i64 (frm : Int)) (.slice (some ⟨w.heap.size, 0, none⟩) m m) (.bool false) := by
    rw [← hs1, ← hw2]; exact heap_alloc_new _ _
  have HN := Lib.hid (New.trans N1 N2)
  have HT : Hid (KTab w2 (fun k => k = w.heap.size ∨ k = w.heap.size + 1) (w.heap.size + 1) w.heap.size g frm (List.replicate m none) false) := Lib.hid ⟨by rw [List.length_replicate]; exact hat, hsl, fun s hs => (by rw [List.eq_of_mem_replicate hs]; intro p hp; cases hp), by omega, .inr rfl, .inl rfl, by rw [List.length_replicate]; exact HP.out.2.1⟩
  have HLd := Lib.hid (keyLoad HT.out (HD.out.new HN.out) (fun k hk => by rw [hs2]; rcases hk with rfl | rfl <;> omega) (fun k hk => by rw [hs2]; have := hk.2; omega) (fun k hk hg => by have := hg.2; rcases hk with rfl | rfl <;> omega) ⟨HP.out.1, HP.out.2.1⟩ HP.out.2.2)
  have HS2 := Lib.hid hs2
  clear hw1 hw2 hs1 hs2 N1 N2 hsl hat hmk
  go_wp2_with fail
  refine HLd.out.mono ?_
  rintro _ w3 hl
  obtain rfl := hl.ret
  have HL := Lib.hid hl
  clear hl HLd
  go_wp2
  go_ret2
  obtain ⟨D', hd', hon⟩ := HL.out.dev
  have hs2 := HS2.out
  refine ⟨w.heap.size + 1, D', rfl, ⟨⟨fun k => k = w.heap.size ∨ k = w.heap.size + 1, _, ⟨w.heap.size, HL.out.tab⟩, hd', fun k hk hg => ?_, fun k hk => .inr (by rcases hk with rfl | rfl <;> omega), fun k hk => hk.elim (fun h => .inl h.1) (fun h => .inr (by omega))⟩, (New.only (F := F) HN.out).trans HL.out.only (fun k hk hg => hg.elim (fun h => h.1) (fun h => by omega))⟩, hon⟩
  rcases hg with h | h
  · have := h.2; rcases hk with rfl | rfl <;> omega
  · rcases hk with rfl | rfl <;> omega

theorem keyApi : KeyApi KMk where
  only := fun ⟨sl, h⟩ ho hG => ⟨sl, h.only ho hG⟩
  narrow := fun ⟨sl, h⟩ hF => ⟨sl, h.narrow hF⟩
  open_ := fun h frm slots h1 h2 h3 => keyOpen h frm slots h1 h2 h3
  put := fun h _ hon _ hfit b x k hb hk hx hxH hf i hi hfr => keyPut h hon hfit b x k hb hk hx hxH hf i hi hfr
  putNo := fun ⟨sl, h⟩ b x k hb hk hx hno _ => keyPutNo h b x k hb hk hx hno
  shred := fun h _ hon _ hfit b _ i hi hf => keyShred h hon hfit b i hi hf
  shredNo := fun ⟨sl, h⟩ b _ hno _ => keyShredNo h b hno
  get := fun ⟨sl, h⟩ _ _ b _ => keyGet h b

end Go.Proofs.Ytnekcdpfphgpbaa
