/-
  errors.As where the target is a *Fault or a number, and the error is nil, a fault or a number.
-/
import Derived.Test.YtnjijmphmgihiaaDoorProg
import Derived.Test.YtnjijmphmgihiaaDoorBase
import Derived.WalkKit
import Derived.LaidEql
import Derived.Stop.Asserts
import Derived.RowKitTokens
namespace Go.Proofs.YtnjijmphmgihiaaDoor
set_option linter.unusedVariables false
set_option linter.unusedSimpArgs false
open Go.RowKit Go.Extern.Stop Go.Stop Go.Extern

/-- the handle of a type -/
abbrev hndl (t : Nat) : Value := .pointer (some ⟨4, t, none⟩)
/-- a reflected value of type t, kept at a, with these flags -/
abbrev rval (t : Nat) (a : Addr) (fl : Int) : Value := .agg #[.pointer (some ⟨4, t, none⟩), .pointer (some a), .int .u64 fl]

/-- package errors' variable holds the handle of the type error -/
def HasErr (w : World) : Prop := w.cell? ⟨0, 0, none⟩ = some (.iface 84 (.agg #[hndl 26]))

theorem HasErr.new {w w' : World} (h : HasErr w) (hn : New w w') : HasErr w' := by
  unfold HasErr at *
  have hlt : 0 < w.heap.size := by
    rcases Nat.lt_or_ge 0 w.heap.size with h' | h'
    · exact h'
    · simp [World.cell?, Array.getElem?_eq_none h'] at h
  rw [hn.cell (p := ⟨0, 0, none⟩) hlt]; exact h

/-! errors.As(nil, target) -/
theorem asNil (t : Value) (w : World) :
    Calls Tryd.prog 17 #[.nilIface, t] w fun e w' => e = .returned (.bool false) ∧ w' = w := by
  go_enter Tryd.func17, Tryd.ntmps17
  go_wp2
  go_ret
  exact ⟨rfl, rfl⟩

/-! closed facts -/
theorem As.valueOfF (t : Addr) (w : World) : (ReflectliteValue.unpack (.iface 44 (.pointer (some t)))).run Tryd.prog w
    = .ok (rval 44 ⟨w.heap.size, 0, none⟩ 150) (w.alloc (.cells #[.pointer (some t)] 44)) := by kernel_rfl
theorem As.valueOfN (t : Addr) (w : World) : (ReflectliteValue.unpack (.iface 50 (.pointer (some t)))).run Tryd.prog w
    = .ok (rval 50 ⟨w.heap.size, 0, none⟩ 150) (w.alloc (.cells #[.pointer (some t)] 50)) := by kernel_rfl
theorem As.typeF (a : Addr) (w : World) : (ReflectliteValue.methodAny (ReflectliteValue.valueError "reflectlite.Value.Type" 0) (fun t _ _ _ => ReflectliteType.toType t) #[rval 44 a 150]).run Tryd.prog w
    = .ok (.iface 84 (.agg #[hndl 44])) w := by kernel_rfl
theorem As.typeN (a : Addr) (w : World) : (ReflectliteValue.methodAny (ReflectliteValue.valueError "reflectlite.Value.Type" 0) (fun t _ _ _ => ReflectliteType.toType t) #[rval 50 a 150]).run Tryd.prog w
    = .ok (.iface 84 (.agg #[hndl 50])) w := by kernel_rfl
theorem As.methodKind (h : Value) (w : World) : (Go.method 245 84 (.agg #[h]) "Kind").run Tryd.prog w = .ok (71, h) w := by kernel_rfl
theorem As.kindFF (w : World) : ((ReflectliteType.abiMethod fun t => (fun a : Nat => Value.int IntKind.u8 (a : Int)) <$> Rtype.kind t) #[hndl 44]).run Tryd.prog w = .ok (.int .u8 22) w := by kernel_rfl
theorem As.kindNN (w : World) : ((ReflectliteType.abiMethod fun t => (fun a : Nat => Value.int IntKind.u8 (a : Int)) <$> Rtype.kind t) #[hndl 50]).run Tryd.prog w = .ok (.int .u8 22) w := by kernel_rfl
theorem As.kindF (w : World) : ((ReflectliteType.abiMethod fun t => (fun a : Nat => Value.int IntKind.u8 (a : Int)) <$> Rtype.kind t) #[hndl 42]).run Tryd.prog w = .ok (.int .u8 22) w := by kernel_rfl
theorem As.kindN (w : World) : ((ReflectliteType.abiMethod fun t => (fun a : Nat => Value.int IntKind.u8 (a : Int)) <$> Rtype.kind t) #[hndl 28]).run Tryd.prog w = .ok (.int .u8 2) w := by kernel_rfl
theorem As.methodElem (h : Value) (w : World) : (Go.method 245 84 (.agg #[h]) "Elem").run Tryd.prog w = .ok (82, .agg #[h]) w := by kernel_rfl
theorem As.methodImplements (h : Value) (w : World) : (Go.method 245 84 (.agg #[h]) "Implements").run Tryd.prog w = .ok (83, .agg #[h]) w := by kernel_rfl
theorem As.methodAssignableTo (h : Value) (w : World) : (Go.method 245 84 (.agg #[h]) "AssignableTo").run Tryd.prog w = .ok (80, .agg #[h]) w := by kernel_rfl
theorem As.elemFF (w : World) : (ReflectliteType.method ReflectliteType.elem #[.agg #[hndl 44]]).run Tryd.prog w = .ok (.iface 84 (.agg #[hndl 42])) w := by kernel_rfl
theorem As.elemNN (w : World) : (ReflectliteType.method ReflectliteType.elem #[.agg #[hndl 50]]).run Tryd.prog w = .ok (.iface 84 (.agg #[hndl 28])) w := by kernel_rfl
theorem As.implF (w : World) : (ReflectliteType.relation "Implements" ReflectliteType.implements_ #[.agg #[hndl 42], .iface 84 (.agg #[hndl 26])]).run Tryd.prog w = .ok (.bool true) w := by kernel_rfl
theorem As.implN (w : World) : (ReflectliteType.relation "Implements" ReflectliteType.implements_ #[.agg #[hndl 28], .iface 84 (.agg #[hndl 26])]).run Tryd.prog w = .ok (.bool true) w := by kernel_rfl
theorem As.typeOfF (v : Value) (w : World) : (ReflectliteType.typeOf #[.iface 42 v]).run Tryd.prog w = .ok (.iface 84 (.agg #[hndl 42])) w := by kernel_rfl
theorem As.typeOfN (v : Value) (w : World) : (ReflectliteType.typeOf #[.iface 28 v]).run Tryd.prog w = .ok (.iface 84 (.agg #[hndl 28])) w := by kernel_rfl
theorem As.assFF (w : World) : (ReflectliteType.relation "AssignableTo" ReflectliteType.assignableTo #[.agg #[hndl 42], .iface 84 (.agg #[hndl 42])]).run Tryd.prog w = .ok (.bool true) w := by kernel_rfl
theorem As.assNN (w : World) : (ReflectliteType.relation "AssignableTo" ReflectliteType.assignableTo #[.agg #[hndl 28], .iface 84 (.agg #[hndl 28])]).run Tryd.prog w = .ok (.bool true) w := by kernel_rfl
theorem As.assNF (w : World) : (ReflectliteType.relation "AssignableTo" ReflectliteType.assignableTo #[.agg #[hndl 28], .iface 84 (.agg #[hndl 42])]).run Tryd.prog w = .ok (.bool false) w := by kernel_rfl
theorem As.assFN (w : World) : (ReflectliteType.relation "AssignableTo" ReflectliteType.assignableTo #[.agg #[hndl 42], .iface 84 (.agg #[hndl 28])]).run Tryd.prog w = .ok (.bool false) w := by kernel_rfl
theorem As.valF (o : Option Addr) (w : World) : (ReflectliteValue.unpack (.iface 42 (.pointer o))).run Tryd.prog w
    = .ok (rval 42 ⟨w.heap.size, 0, none⟩ 150) (w.alloc (.cells #[.pointer o] 42)) := by kernel_rfl
theorem As.valN (n : Int) (w : World) : (ReflectliteValue.unpack (.iface 28 (.int .i64 n))).run Tryd.prog w
    = .ok (rval 28 ⟨w.heap.size, 0, none⟩ 130) (w.alloc (.cells #[.int .i64 n] 28)) := by kernel_rfl

end Go.Proofs.YtnjijmphmgihiaaDoor
