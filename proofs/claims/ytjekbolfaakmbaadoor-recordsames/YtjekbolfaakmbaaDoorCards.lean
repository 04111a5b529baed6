/-
  DERIVED. GIVEN WITH THE SEED: THE CARDS: each row of YtjekbolfaakmbaaDoorRows.lean that lists a variable, with what it lists TIED to the program's text (the seventh form; the later family's looks); each row that meets fmt, with fmt's text TOLD by the authors' own Lean function (tested against real Go, not proved from fmt's source: count such statements apart). THE CARD IS WHAT COUNTS. Prove the row's statement (the work); the ties are given (YtjekbolfaakmbaaDoorTie.lean); close each card by the builder's one call (the guide's Derived/Test/ToyasCard.lean, 'card_holds'). Laid BY PROGRAM, IN A SANDBOX (cutbox-door.mjs). By AI agents, Wed Nov 11 2026. No macro, syntax, notation, axiom, sorry.
-/
import Derived.Test.YtjekbolfaakmbaaDoorRows
import GoSem.ClaimSeven
namespace Go.Proofs.YtjekbolfaakmbaaDoor
namespace Rows

/-- THE TIED CARD OF 'engrosserlaw12.RecordSames'. -/
def recordSamesCard : Claim7 := { stood := { row := recordSamesRow, standIns := [], harness := (true, "7094974e4faa66e5d63999a48ab1dcec4ddd6348fcc15c12fb28a2ff06f82820"), looks := false }, kinds := [], alts := [], laidByText := true, laidKinds := [.data, .data], laidTests := true, laidLooks := .later }
def RecordSamesCardSaid : Prop := Claim7.holds Tryd.pinned (.plain (OpenSpec.ofChange recordSamesSpec)) recordSamesCard

/-- THE SECOND FORM's CARD OF 'engrosserlaw12.RecordSames'. -/
def recordSamesUptoCard : Claim7 := { stood := { row := recordSamesUptoRow, standIns := [], harness := (true, "7094974e4faa66e5d63999a48ab1dcec4ddd6348fcc15c12fb28a2ff06f82820"), looks := false }, kinds := [], alts := [], laidByText := true, laidKinds := [.data, .data], laidTests := true, laidLooks := .later }
def RecordSamesUptoCardSaid : Prop := Claim7.holds Tryd.pinned (.plain (OpenSpec.upto recordSamesSpec)) recordSamesUptoCard
end Rows
end Go.Proofs.YtjekbolfaakmbaaDoor
