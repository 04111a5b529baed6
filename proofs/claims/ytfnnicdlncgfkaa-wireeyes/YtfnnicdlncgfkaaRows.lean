/-
  No cell of these rows narrows 'for every input' (looked for: loops, veiled, ifaces, maps, wideKeys, modest, calm, conditions, laid).
  DERIVED. THE GIVEN ROWS OF THIS SEAT. 4 by the template 'for every input the law returns true; each argument reads behind the call as it read before'; 0 by the template 'total and deterministic' (their statements: YtfnnicdlncgfkaaTotals.lean).
  GIVEN WITH THE SEED: the statements are not yours to turn. If you find one false, say at which input.
  Laid BY PROGRAM, IN A SANDBOX (cutbox-rows.mjs): the forced cells as the released guide's own fill.sh prints them over the translation 41bee3f28dd6ddc0… (all of the seat's roots in one cut). By AI agents, Wed Nov 11 2026. No macro, syntax, notation, axiom, sorry.
-/
import Derived.Test.YtfnnicdlncgfkaaChecked
import GoSem.Claim
import GoSem.ClaimJoined
import GoSem.ClaimMapViews
import Derived.JoinedTies
import Derived.KernelRfl
namespace Go.Proofs.Ytfnnicdlncgfkaa
/- THE CELL 'sum', in the pinned program and in every row, IS THE sha256 OF THE DUMP (.gsa) THAT YtfnnicdlncgfkaaProg.lean LOADS. Nothing in Lean hashes anything: it is a label: what it is worth is what the hold of that sum in a sandbox is worth. -/
noncomputable def Try.pinned : Pinned := { name := "ytfnnicdlncgfkaa", sum := "41bee3f28dd6ddc0f44a779d411f4713feef5f49218274880d4d71a4f8cd7ec1", checked := Try.checked }
namespace Rows
def none {H : Type} : Left H := { results := [], args := [] }

/-- 'engrosserlaw01.WirePens': WHATEVER THE INPUT: true; the input reads as it did. -/
def wirePensSpec : ChangeSpec := { name := "wirePens", fn := fun _ => fun
  | [d] => { results := [.lit (.bool true)], args := [d] }
  | _ => none }
def wirePensRow : OpenClaim := { program := "ytfnnicdlncgfkaa", sum := "41bee3f28dd6ddc0f44a779d411f4713feef5f49218274880d4d71a4f8cd7ec1", func := "engrosser/engrosserlaw01.WirePens", spec := "wirePens", apart := false }
def WirePensSaid : Prop := wirePensRow.holds Try.pinned (OpenSpec.ofChange wirePensSpec)

/-- ITS FALSE NEIGHBOUR: 'it returns false'. Refute it at one input. -/
def wirePensWrong : ChangeSpec := { name := "wirePens", fn := fun _ => fun
  | [d] => { results := [.lit (.bool false)], args := [d] }
  | _ => none }
def WirePensWrongFalsely : Prop := wirePensRow.holds Try.pinned (OpenSpec.ofChange wirePensWrong)

/-- 'engrosserlaw01.WireEyes': WHATEVER THE INPUT: true; the input reads as it did. -/
def wireEyesSpec : ChangeSpec := { name := "wireEyes", fn := fun _ => fun
  | [d1, d2, d3] => { results := [.lit (.bool true)], args := [d1, d2, d3] }
  | _ => none }
def wireEyesRow : OpenClaim := { program := "ytfnnicdlncgfkaa", sum := "41bee3f28dd6ddc0f44a779d411f4713feef5f49218274880d4d71a4f8cd7ec1", func := "engrosser/engrosserlaw01.WireEyes", spec := "wireEyes", apart := false }
def WireEyesSaid : Prop := wireEyesRow.holds Try.pinned (OpenSpec.ofChange wireEyesSpec)

/-- ITS FALSE NEIGHBOUR: 'it returns false'. Refute it at one input. -/
def wireEyesWrong : ChangeSpec := { name := "wireEyes", fn := fun _ => fun
  | [d1, d2, d3] => { results := [.lit (.bool false)], args := [d1, d2, d3] }
  | _ => none }
def WireEyesWrongFalsely : Prop := wireEyesRow.holds Try.pinned (OpenSpec.ofChange wireEyesWrong)

/-- 'engrosserlaw01.WireBack': WHATEVER THE INPUT: true; the input reads as it did. -/
def wireBackSpec : ChangeSpec := { name := "wireBack", fn := fun _ => fun
  | [d] => { results := [.lit (.bool true)], args := [d] }
  | _ => none }
def wireBackRow : OpenClaim := { program := "ytfnnicdlncgfkaa", sum := "41bee3f28dd6ddc0f44a779d411f4713feef5f49218274880d4d71a4f8cd7ec1", func := "engrosser/engrosserlaw01.WireBack", spec := "wireBack", apart := false }
def WireBackSaid : Prop := wireBackRow.holds Try.pinned (OpenSpec.ofChange wireBackSpec)

/-- ITS FALSE NEIGHBOUR: 'it returns false'. Refute it at one input. -/
def wireBackWrong : ChangeSpec := { name := "wireBack", fn := fun _ => fun
  | [d] => { results := [.lit (.bool false)], args := [d] }
  | _ => none }
def WireBackWrongFalsely : Prop := wireBackRow.holds Try.pinned (OpenSpec.ofChange wireBackWrong)

/-- 'engrosserlaw01.WireCuts': WHATEVER THE INPUT: true; the input reads as it did. -/
def wireCutsSpec : ChangeSpec := { name := "wireCuts", fn := fun _ => fun
  | [d1, d2, d3] => { results := [.lit (.bool true)], args := [d1, d2, d3] }
  | _ => none }
def wireCutsRow : OpenClaim := { program := "ytfnnicdlncgfkaa", sum := "41bee3f28dd6ddc0f44a779d411f4713feef5f49218274880d4d71a4f8cd7ec1", func := "engrosser/engrosserlaw01.WireCuts", spec := "wireCuts", apart := false }
def WireCutsSaid : Prop := wireCutsRow.holds Try.pinned (OpenSpec.ofChange wireCutsSpec)

/-- ITS FALSE NEIGHBOUR: 'it returns false'. Refute it at one input. -/
def wireCutsWrong : ChangeSpec := { name := "wireCuts", fn := fun _ => fun
  | [d1, d2, d3] => { results := [.lit (.bool false)], args := [d1, d2, d3] }
  | _ => none }
def WireCutsWrongFalsely : Prop := wireCutsRow.holds Try.pinned (OpenSpec.ofChange wireCutsWrong)

/- THE SECOND FORM. 'bulk': how many values and letters a reading holds, each counted each time it is reached (what is shared counts as often as it is met; a slice's spare places count too). A statement '..UptoSaid' is the law's where the arguments, and the package variables that the reading takes, are together of bulk at most 1048576: NARROWER than '..Said'. Prove '..Said' where nothing that the law and all that it calls make is longer than what came in: it says more and counts as full. Else prove '..UptoSaid'. A law counts once. -/
mutual
def uptoBulk {H : Type} : DataW H → Nat
  | .lit (.string bytes) => bytes.length + 1
  | .lit _ => 1
  | .nil => 1
  | .ptr d => uptoBulk d + 1
  | .slice elems spare => uptoBulkAll elems + uptoBulkAll spare + 1
  | .agg parts => uptoBulkAll parts + 1
  | .iface _ d => uptoBulk d + 1
  | .map entries => uptoBulkEntries entries + 1
  | .held _ => 1
def uptoBulkAll {H : Type} : List (DataW H) → Nat
  | [] => 0
  | d :: r => uptoBulk d + uptoBulkAll r
def uptoBulkEntries {H : Type} : List (Lit × DataW H) → Nat
  | [] => 0
  | x :: r => uptoBulkEntry x + uptoBulkEntries r
def uptoBulkEntry {H : Type} : Lit × DataW H → Nat
  | (.string bytes, d) => bytes.length + uptoBulk d + 1
  | (_, d) => uptoBulk d + 1
 end
def uptoSmall : (H : Type) → List (DataW H) → Bool := fun _ ds => decide (uptoBulkAll ds ≤ 1048576)
def OpenSpec.upto (s : _root_.Go.ChangeSpec) : _root_.Go.OpenSpec := { _root_.Go.OpenSpec.ofChange s with cond := some uptoSmall }

/-- 'engrosserlaw01.WirePens', WHERE WHAT IT READS IS OF BULK AT MOST 1048576: true; the input reads as it did. -/
def wirePensUptoRow : OpenClaim := { program := "ytfnnicdlncgfkaa", sum := "41bee3f28dd6ddc0f44a779d411f4713feef5f49218274880d4d71a4f8cd7ec1", func := "engrosser/engrosserlaw01.WirePens", spec := "wirePens", apart := false, narrowed := true }
def WirePensUptoSaid : Prop := wirePensUptoRow.holds Try.pinned (OpenSpec.upto wirePensSpec)

/-- 'engrosserlaw01.WireEyes', WHERE WHAT IT READS IS OF BULK AT MOST 1048576: true; the input reads as it did. -/
def wireEyesUptoRow : OpenClaim := { program := "ytfnnicdlncgfkaa", sum := "41bee3f28dd6ddc0f44a779d411f4713feef5f49218274880d4d71a4f8cd7ec1", func := "engrosser/engrosserlaw01.WireEyes", spec := "wireEyes", apart := false, narrowed := true }
def WireEyesUptoSaid : Prop := wireEyesUptoRow.holds Try.pinned (OpenSpec.upto wireEyesSpec)

/-- 'engrosserlaw01.WireBack', WHERE WHAT IT READS IS OF BULK AT MOST 1048576: true; the input reads as it did. -/
def wireBackUptoRow : OpenClaim := { program := "ytfnnicdlncgfkaa", sum := "41bee3f28dd6ddc0f44a779d411f4713feef5f49218274880d4d71a4f8cd7ec1", func := "engrosser/engrosserlaw01.WireBack", spec := "wireBack", apart := false, narrowed := true }
def WireBackUptoSaid : Prop := wireBackUptoRow.holds Try.pinned (OpenSpec.upto wireBackSpec)

/-- 'engrosserlaw01.WireCuts', WHERE WHAT IT READS IS OF BULK AT MOST 1048576: true; the input reads as it did. -/
def wireCutsUptoRow : OpenClaim := { program := "ytfnnicdlncgfkaa", sum := "41bee3f28dd6ddc0f44a779d411f4713feef5f49218274880d4d71a4f8cd7ec1", func := "engrosser/engrosserlaw01.WireCuts", spec := "wireCuts", apart := false, narrowed := true }
def WireCutsUptoSaid : Prop := wireCutsUptoRow.holds Try.pinned (OpenSpec.upto wireCutsSpec)

end Rows
end Go.Proofs.Ytfnnicdlncgfkaa
