/-
  DERIVED. GIVEN WITH THE SEED: THE CARDS: each row of YtofceheipabeaaaDoorRows.lean that lists a variable, with what it lists TIED to the program's text (the seventh form; the later family's looks); each row that meets fmt, with fmt's text TOLD by the authors' own Lean function (tested against real Go, not proved from fmt's source: count such statements apart). THE CARD IS WHAT COUNTS. Prove the row's statement (the work); the ties are given (YtofceheipabeaaaDoorTie.lean); close each card by the builder's one call (the guide's Derived/Test/ToyasCard.lean, 'card_holds'). Laid BY PROGRAM, IN A SANDBOX (cutbox-door.mjs). By AI agents, Wed Nov 11 2026. No macro, syntax, notation, axiom, sorry.
-/
import Derived.Test.YtofceheipabeaaaDoorRows
import GoSem.ClaimSeven
namespace Go.Proofs.YtofceheipabeaaaDoor
namespace Rows

/-- THE TIED CARD OF 'engrosserlaw04.KdfExpands'. -/
def kdfExpandsCard : Claim7 := { stood := { row := kdfExpandsRow, standIns := [], harness := (true, "7a62b99565ae2e1f0cd9564b9a77f3d0a0d1b41457b350df70caf6b4aff876fb"), looks := false }, kinds := [], alts := [], laidByText := true, laidKinds := [.data, .data], laidTests := true, laidLooks := .later }
def KdfExpandsCardSaid : Prop := Claim7.holds Tryd.pinned (.plain (OpenSpec.ofChange kdfExpandsSpec)) kdfExpandsCard

/-- THE TIED CARD OF 'engrosserlaw04.KdfLabels'. -/
def kdfLabelsCard : Claim7 := { stood := { row := kdfLabelsRow, standIns := [], harness := (true, "7a62b99565ae2e1f0cd9564b9a77f3d0a0d1b41457b350df70caf6b4aff876fb"), looks := false }, kinds := [], alts := [], laidByText := true, laidKinds := [.data, .data], laidTests := true, laidLooks := .later }
def KdfLabelsCardSaid : Prop := Claim7.holds Tryd.pinned (.plain (OpenSpec.ofChange kdfLabelsSpec)) kdfLabelsCard

/-- THE TIED CARD OF 'engrosserlaw04.KdfPrefixes'. -/
def kdfPrefixesCard : Claim7 := { stood := { row := kdfPrefixesRow, standIns := [], harness := (true, "7a62b99565ae2e1f0cd9564b9a77f3d0a0d1b41457b350df70caf6b4aff876fb"), looks := false }, kinds := [], alts := [], laidByText := true, laidKinds := [.data, .data], laidTests := true, laidLooks := .later }
def KdfPrefixesCardSaid : Prop := Claim7.holds Tryd.pinned (.plain (OpenSpec.ofChange kdfPrefixesSpec)) kdfPrefixesCard

/-- THE SECOND FORM's CARD OF 'engrosserlaw04.KdfExpands'. -/
def kdfExpandsUptoCard : Claim7 := { stood := { row := kdfExpandsUptoRow, standIns := [], harness := (true, "7a62b99565ae2e1f0cd9564b9a77f3d0a0d1b41457b350df70caf6b4aff876fb"), looks := false }, kinds := [], alts := [], laidByText := true, laidKinds := [.data, .data], laidTests := true, laidLooks := .later }
def KdfExpandsUptoCardSaid : Prop := Claim7.holds Tryd.pinned (.plain (OpenSpec.upto kdfExpandsSpec)) kdfExpandsUptoCard

/-- THE SECOND FORM's CARD OF 'engrosserlaw04.KdfLabels'. -/
def kdfLabelsUptoCard : Claim7 := { stood := { row := kdfLabelsUptoRow, standIns := [], harness := (true, "7a62b99565ae2e1f0cd9564b9a77f3d0a0d1b41457b350df70caf6b4aff876fb"), looks := false }, kinds := [], alts := [], laidByText := true, laidKinds := [.data, .data], laidTests := true, laidLooks := .later }
def KdfLabelsUptoCardSaid : Prop := Claim7.holds Tryd.pinned (.plain (OpenSpec.upto kdfLabelsSpec)) kdfLabelsUptoCard

/-- THE SECOND FORM's CARD OF 'engrosserlaw04.KdfPrefixes'. -/
def kdfPrefixesUptoCard : Claim7 := { stood := { row := kdfPrefixesUptoRow, standIns := [], harness := (true, "7a62b99565ae2e1f0cd9564b9a77f3d0a0d1b41457b350df70caf6b4aff876fb"), looks := false }, kinds := [], alts := [], laidByText := true, laidKinds := [.data, .data], laidTests := true, laidLooks := .later }
def KdfPrefixesUptoCardSaid : Prop := Claim7.holds Tryd.pinned (.plain (OpenSpec.upto kdfPrefixesSpec)) kdfPrefixesUptoCard
end Rows
end Go.Proofs.YtofceheipabeaaaDoor
