/-
  DERIVED. GIVEN WITH THE SEED: THE CARDS: each row of YtliojldkdmaofaaDoorRows.lean that lists a variable, with what it lists TIED to the program's text (the seventh form; the later family's looks); each row that meets fmt, with fmt's text TOLD by the authors' own Lean function (tested against real Go, not proved from fmt's source: count such statements apart). THE CARD IS WHAT COUNTS. Prove the row's statement (the work); the ties are given (YtliojldkdmaofaaDoorTie.lean); close each card by the builder's one call (the guide's Derived/Test/ToyasCard.lean, 'card_holds'). Laid BY PROGRAM, IN A SANDBOX (cutbox-door.mjs). By AI agents, Wed Nov 11 2026. No macro, syntax, notation, axiom, sorry.
-/
import Derived.Test.YtliojldkdmaofaaDoorRows
import GoSem.ClaimSeven
namespace Go.Proofs.YtliojldkdmaofaaDoor
namespace Rows

/-- THE TIED CARD OF 'engrosserlaw19.NodeHashes'. -/
def nodeHashesCard : Claim7 := { stood := { row := nodeHashesRow, standIns := [], harness := (true, "6ae1ed48b545064b364e61ccd21e1d1f35aa4a5daf35e3ba08fa5fac25a8c0e0"), looks := false }, kinds := [], alts := [], laidByText := true, laidKinds := [.data, .data], laidTests := true, laidLooks := .later }
def NodeHashesCardSaid : Prop := Claim7.holds Tryd.pinned (.plain (OpenSpec.ofChange nodeHashesSpec)) nodeHashesCard

/-- THE SECOND FORM's CARD OF 'engrosserlaw19.NodeHashes'. -/
def nodeHashesUptoCard : Claim7 := { stood := { row := nodeHashesUptoRow, standIns := [], harness := (true, "6ae1ed48b545064b364e61ccd21e1d1f35aa4a5daf35e3ba08fa5fac25a8c0e0"), looks := false }, kinds := [], alts := [], laidByText := true, laidKinds := [.data, .data], laidTests := true, laidLooks := .later }
def NodeHashesUptoCardSaid : Prop := Claim7.holds Tryd.pinned (.plain (OpenSpec.upto nodeHashesSpec)) nodeHashesUptoCard
end Rows
end Go.Proofs.YtliojldkdmaofaaDoor
