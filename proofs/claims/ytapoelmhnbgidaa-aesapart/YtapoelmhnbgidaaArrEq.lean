/-
  Arrays of bytes, compared.
-/
import Derived.Test.YtapoelmhnbgidaaAesBlock
import Derived.Laws.StructEq
namespace Go.Proofs.Ytapoelmhnbgidaa
set_option linter.unusedVariables false
set_option linter.unusedSimpArgs false
open Go.RowKit

theorem run_partB (l : List UInt8) (t : Nat) (ht : t < l.length) (wx : World) : (part 5 (l.map bv).toArray t).run Try.prog wx = .ok (bv (l.getD t 0)) wx := by
  have ha : (isAgg 5).run Try.prog wx = .ok false wx := by kernel_rfl
  have hg : l[t]? = some (l.getD t 0) := by
    rw [List.getD_eq_getElem?_getD, List.getElem?_eq_getElem ht]; rfl
  unfold part
  rw [Sem.run_bind, ha]
  simp only [Result.andThen_ok, Bool.false_eq_true, if_false, List.getElem?_toArray, List.getElem?_map, hg, Option.map_some, Sem.run_pure]

theorem run_equalIn_bytes {n : Nat} {ty : TypeId} (hu : Try.prog.underlying ty = some (.array n 5)) (d : Nat) (a b : List UInt8) (ha : a.length = n) (hb : b.length = n) (w : World) :
    (Op.equalIn (d + 2) ty (.agg (a.map bv).toArray) (.agg (b.map bv).toArray)).run Try.prog w = .ok (decide (a = b)) w := by
  have hs : (sizeOf 5).run Try.prog w = .ok 1 w := by kernel_rfl
  unfold Op.equalIn
  simp only [Sem.run_bind, run_underlying hu, Result.andThen_ok, hs]
  rw [Std.Legacy.Range.forIn_eq_forIn_range']
  simp only [Std.Legacy.Range.size, Nat.sub_zero, Nat.add_sub_cancel, Nat.div_one]
  have key : ∀ m k, k + m = n → (forIn (List.range' k m) (none, ()) fun i __s => do
            let __do_lift ← part 5 (List.map bv a).toArray (i * 1)
            let __do_lift_1 ← part 5 (List.map bv b).toArray (i * 1)
            let __do_lift ← Op.equalIn (d + 1) 5 __do_lift __do_lift_1
            if (!__do_lift) = true then pure (ForInStep.done (some false, ())) else pure (ForInStep.yield (none, ()))).run Try.prog w = .ok (if a.drop k = b.drop k then (none, ()) else (some false, ())) w := by
    intro m
    induction m with
    | zero =>
      intro k hk
      rw [List.drop_eq_nil_of_le (by omega), List.drop_eq_nil_of_le (by omega), if_pos rfl]
      rfl
    | succ m ih =>
      intro k hk
      have h1 := ih (k + 1) (by omega)
      have d1 := List.drop_eq_getElem_cons (l := a) (i := k) (by omega)
      have d2 := List.drop_eq_getElem_cons (l := b) (i := k) (by omega)
      have g1 : a.getD k 0 = a[k] := by rw [List.getD_eq_getElem?_getD, List.getElem?_eq_getElem (by omega)]; rfl
      have g2 : b.getD k 0 = b[k] := by rw [List.getD_eq_getElem?_getD, List.getElem?_eq_getElem (by omega)]; rfl
      rw [List.range'_succ, List.forIn_cons]
      simp only [Sem.run_bind, Nat.mul_one, run_partB a k (by omega), run_partB b k (by omega), Result.andThen_ok, run_equalIn_int w d 5 .u8 .u8 _ _ Try.underlying5]
      rw [g1, g2, d1, d2]
      by_cases e : a[k] = b[k]
      · rw [e]
        simp only [beq_self_eq_true, Bool.not_true, Bool.false_eq_true, if_false, Sem.run_pure, Result.andThen_ok, List.cons.injEq, true_and]
        simp only [Nat.mul_one] at h1
        exact h1
      · have e2 : ((a[k].toNat : Int) == (b[k].toNat : Int)) = false := by
          rw [beq_eq_false_iff_ne]
          intro h
          exact e (UInt8.toNat_inj.1 (by omega))
        simp only [e2, Bool.not_false, if_true, Sem.run_pure, Result.andThen_ok, List.cons.injEq, e, false_and, if_false]
  have h0 := key n 0 (by omega)
  rw [h0]
  simp only [List.drop_zero, Result.andThen_ok]
  by_cases e : a = b
  · rw [if_pos e, decide_eq_true e]; rfl
  · rw [if_neg e, decide_eq_false e]; rfl

/-- a == b -/
theorem eq16 (a b : List UInt8) (ha : a.length = 16) (hb : b.length = 16) (w : World) :
    (Op.equalIn 10000 22 (.agg (a.map bv).toArray) (.agg (b.map bv).toArray)).run Try.prog w = .ok (decide (a = b)) w :=
  run_equalIn_bytes Try.underlying22 9998 a b ha hb w

end Go.Proofs.Ytapoelmhnbgidaa
