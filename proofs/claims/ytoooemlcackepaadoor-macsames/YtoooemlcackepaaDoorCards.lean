/-
  DERIVED. GIVEN WITH THE SEED: THE CARDS: each row of YtoooemlcackepaaDoorRows.lean that lists a variable, with what it lists TIED to the program's text (the seventh form; the later family's looks); each row that meets fmt, with fmt's text TOLD by the authors' own Lean function (tested against real Go, not proved from fmt's source: count such statements apart). THE CARD IS WHAT COUNTS. Prove the row's statement (the work); the ties are given (YtoooemlcackepaaDoorTie.lean); close each card by the builder's one call (the guide's Derived/Test/ToyasCard.lean, 'card_holds'). Laid BY PROGRAM, IN A SANDBOX (cutbox-door.mjs). By AI agents, Wed Nov 11 2026. No macro, syntax, notation, axiom, sorry.
-/
import Derived.Test.YtoooemlcackepaaDoorRows
import GoSem.ClaimSeven
namespace Go.Proofs.YtoooemlcackepaaDoor
namespace Rows

/-- THE TIED CARD OF 'engrosserlaw03.MacTags'. -/
def macTagsCard : Claim7 := { stood := { row := macTagsRow, standIns := [], harness := (true, "966f3d34a18f4b99437c88ef8ef7004d5aefb3c0fec6dbdabcf56b02640a8055"), looks := false }, kinds := [], alts := [], laidByText := true, laidKinds := [.data, .data], laidTests := true, laidLooks := .later }
def MacTagsCardSaid : Prop := Claim7.holds Tryd.pinned (.plain (OpenSpec.ofChange macTagsSpec)) macTagsCard

/-- THE TIED CARD OF 'engrosserlaw03.MacNoughts'. -/
def macNoughtsCard : Claim7 := { stood := { row := macNoughtsRow, standIns := [], harness := (true, "966f3d34a18f4b99437c88ef8ef7004d5aefb3c0fec6dbdabcf56b02640a8055"), looks := false }, kinds := [], alts := [], laidByText := true, laidKinds := [.data, .data], laidTests := true, laidLooks := .later }
def MacNoughtsCardSaid : Prop := Claim7.holds Tryd.pinned (.plain (OpenSpec.ofChange macNoughtsSpec)) macNoughtsCard

/-- THE TIED CARD OF 'engrosserlaw03.MacSames'. -/
def macSamesCard : Claim7 := { stood := { row := macSamesRow, standIns := [], harness := (true, "966f3d34a18f4b99437c88ef8ef7004d5aefb3c0fec6dbdabcf56b02640a8055"), looks := false }, kinds := [], alts := [], laidByText := true, laidKinds := [.data, .data], laidTests := true, laidLooks := .later }
def MacSamesCardSaid : Prop := Claim7.holds Tryd.pinned (.plain (OpenSpec.ofChange macSamesSpec)) macSamesCard

/-- THE SECOND FORM's CARD OF 'engrosserlaw03.MacTags'. -/
def macTagsUptoCard : Claim7 := { stood := { row := macTagsUptoRow, standIns := [], harness := (true, "966f3d34a18f4b99437c88ef8ef7004d5aefb3c0fec6dbdabcf56b02640a8055"), looks := false }, kinds := [], alts := [], laidByText := true, laidKinds := [.data, .data], laidTests := true, laidLooks := .later }
def MacTagsUptoCardSaid : Prop := Claim7.holds Tryd.pinned (.plain (OpenSpec.upto macTagsSpec)) macTagsUptoCard

/-- THE SECOND FORM's CARD OF 'engrosserlaw03.MacNoughts'. -/
def macNoughtsUptoCard : Claim7 := { stood := { row := macNoughtsUptoRow, standIns := [], harness := (true, "966f3d34a18f4b99437c88ef8ef7004d5aefb3c0fec6dbdabcf56b02640a8055"), looks := false }, kinds := [], alts := [], laidByText := true, laidKinds := [.data, .data], laidTests := true, laidLooks := .later }
def MacNoughtsUptoCardSaid : Prop := Claim7.holds Tryd.pinned (.plain (OpenSpec.upto macNoughtsSpec)) macNoughtsUptoCard

/-- THE SECOND FORM's CARD OF 'engrosserlaw03.MacSames'. -/
def macSamesUptoCard : Claim7 := { stood := { row := macSamesUptoRow, standIns := [], harness := (true, "966f3d34a18f4b99437c88ef8ef7004d5aefb3c0fec6dbdabcf56b02640a8055"), looks := false }, kinds := [], alts := [], laidByText := true, laidKinds := [.data, .data], laidTests := true, laidLooks := .later }
def MacSamesUptoCardSaid : Prop := Claim7.holds Tryd.pinned (.plain (OpenSpec.upto macSamesSpec)) macSamesUptoCard
end Rows
end Go.Proofs.YtoooemlcackepaaDoor
