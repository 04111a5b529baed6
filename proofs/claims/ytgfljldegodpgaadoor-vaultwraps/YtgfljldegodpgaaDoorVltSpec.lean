/-
  Layer 17, pure: contexts, wrapping, buckets.
-/
import Derived.Test.YtgfljldegodpgaaDoorSealA
import Derived.Test.YtgfljldegodpgaaDoorKdfA
import Derived.Test.YtgfljldegodpgaaDoorEyeA
namespace Go.Proofs.YtgfljldegodpgaaDoor
set_option linter.unusedVariables false
set_option linter.unusedSimpArgs false
set_option maxRecDepth 100000
open Go.RowKit

def wrapL : List UInt8 := [119, 114, 97, 112]
def nonL17 : List UInt8 := [110, 111, 110, 99, 101]

/-- is there a context? -/
def vIs (g : List UInt8) (e : Int) : Prop := g.length ≤ 16 ∧ 0 ≤ e ∧ e ≤ 1048576
instance (g : List UInt8) (e : Int) : Decidable (vIs g e) := by unfold vIs; infer_instance

def vCtx (g : List UInt8) (e : Int) : List UInt8 := (be 1 g.length ++ g) ++ be 8 e.toNat
def vCx (g : List UInt8) (e : Int) : List UInt8 := if vIs g e then vCtx g e else []

theorem vCtx_length (g : List UInt8) (e : Int) : (vCtx g e).length = g.length + 9 := by
  unfold vCtx; rw [List.length_append, List.length_append, be_length, be_length]; omega

theorem vCx_nil (g : List UInt8) (e : Int) : vCx g e = [] ↔ ¬ vIs g e := by
  unfold vCx
  split
  · rename_i h
    constructor
    · intro h2; have := vCtx_length g e; rw [h2] at this; simp at this
    · exact fun h2 => absurd h h2
  · rename_i h; exact ⟨fun _ => h, fun _ => rfl⟩

theorem vCtx_inj {g h : List UInt8} {e f : Int} (he : vIs g e) (hf : vIs h f) : vCtx g e = vCtx h f ↔ g = h ∧ e = f := by
  constructor
  · intro heq
    have hl := congrArg List.length heq
    rw [vCtx_length, vCtx_length] at hl
    unfold vCtx at heq
    obtain ⟨h1, h2⟩ := List.append_inj heq (by rw [List.length_append, List.length_append, be_length, be_length]; omega)
    obtain ⟨-, h3⟩ := List.append_inj h1 (by rw [be_length, be_length])
    have h4 := congrArg val h2
    rw [val_be_lt _ _ (by have := he.2; omega), val_be_lt _ _ (by have := hf.2; omega)] at h4
    exact ⟨h3, by have := he.2; have := hf.2; omega⟩
  · rintro ⟨rfl, rfl⟩; rfl

theorem vCx_inj {g h : List UInt8} {e f : Int} (he : vIs g e) : vCx g e = vCx h f ↔ g = h ∧ e = f := by
  by_cases hf : vIs h f
  · unfold vCx; rw [if_pos he, if_pos hf]; exact vCtx_inj he hf
  · constructor
    · intro heq
      rw [(vCx_nil h f).2 hf] at heq
      exact absurd he ((vCx_nil g e).1 heq)
    · rintro ⟨rfl, rfl⟩; exact absurd he hf

noncomputable def vKey (k : List UInt8) : List UInt8 := labelled k wrapL [] 48
noncomputable def vNon (k c : List UInt8) : List UInt8 := labelled k nonL17 c 16
theorem vKey_length (k : List UInt8) : (vKey k).length = 48 := labelled_length _ _ _ _
theorem vNon_length (k c : List UInt8) : (vNon k c).length = 16 := labelled_length _ _ _ _

def vwOk (k g : List UInt8) (e : Int) (s : List UInt8) : Prop := vIs g e ∧ k.length = 32 ∧ s.length = 32
instance (k g : List UInt8) (e : Int) (s : List UInt8) : Decidable (vwOk k g e s) := by unfold vwOk; infer_instance
def vuOk (k g : List UInt8) (e : Int) (w : List UInt8) : Prop := vIs g e ∧ k.length = 32 ∧ w.length = 48
instance (k g : List UInt8) (e : Int) (w : List UInt8) : Decidable (vuOk k g e w) := by unfold vuOk; infer_instance

noncomputable def vwErr (k g : List UInt8) (e : Int) (s : List UInt8) : Int := if vwOk k g e s then 0 else 2
noncomputable def vwText (k g : List UInt8) (e : Int) (s : List UInt8) : List UInt8 := if vwOk k g e s then sealOf (vKey k) (vNon k (vCtx g e)) (vCtx g e) s else []
noncomputable def vuErr (k g : List UInt8) (e : Int) (w : List UInt8) : Int := if vuOk k g e w then openErr (vKey k) (vNon k (vCtx g e)) (vCtx g e) w else 2
noncomputable def vuText (k g : List UInt8) (e : Int) (w : List UInt8) : List UInt8 := if vuOk k g e w then openText (vKey k) (vNon k (vCtx g e)) (vCtx g e) w else []

theorem vwText_length (k g : List UInt8) (e : Int) (s : List UInt8) : (vwText k g e s).length ≤ 48 := by
  unfold vwText
  split
  · rename_i h; rw [sealOf_length, h.2.2]; omega
  · simp

theorem v_back {k g : List UInt8} {e : Int} {s : List UInt8} (h : vwErr k g e s = 0) : vuErr k g e (vwText k g e s) = 0 ∧ vuText k g e (vwText k g e s) = s := by
  unfold vwErr at h
  split at h
  · rename_i hok
    have hl : (vwText k g e s).length = 48 := by unfold vwText; rw [if_pos hok, sealOf_length, hok.2.2]
    have hu : vuOk k g e (vwText k g e s) := ⟨hok.1, hok.2.1, hl⟩
    unfold vuErr vuText
    rw [if_pos hu, if_pos hu]
    unfold vwText
    rw [if_pos hok]
    exact open_seal _ _ _ _
  · cases h

theorem openText_length (key nonce beside s : List UInt8) : (openText key nonce beside s).length ≤ s.length := by
  unfold openText
  split
  · simp
  · split
    · rw [ctrX_length, List.length_take]; omega
    · simp

def vBucket (t p : Int) : Int := if t < 0 then 0 else if p < 1 then t else t.tdiv p

end Go.Proofs.YtgfljldegodpgaaDoor
