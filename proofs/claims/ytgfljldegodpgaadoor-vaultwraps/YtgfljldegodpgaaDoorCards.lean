/-
  DERIVED. GIVEN WITH THE SEED: THE CARDS: each row of YtgfljldegodpgaaDoorRows.lean that lists a variable, with what it lists TIED to the program's text (the seventh form; the later family's looks); each row that meets fmt, with fmt's text TOLD by the authors' own Lean function (tested against real Go, not proved from fmt's source: count such statements apart). THE CARD IS WHAT COUNTS. Prove the row's statement (the work); the ties are given (YtgfljldegodpgaaDoorTie.lean); close each card by the builder's one call (the guide's Derived/Test/ToyasCard.lean, 'card_holds'). Laid BY PROGRAM, IN A SANDBOX (cutbox-door.mjs). By AI agents, Wed Nov 11 2026. No macro, syntax, notation, axiom, sorry.
-/
import Derived.Test.YtgfljldegodpgaaDoorRows
import GoSem.ClaimSeven
namespace Go.Proofs.YtgfljldegodpgaaDoor
namespace Rows

/-- THE TIED CARD OF 'engrosserlaw17.VaultWraps'. -/
def vaultWrapsCard : Claim7 := { stood := { row := vaultWrapsRow, standIns := [], harness := (true, "a63846273fbba94bed51cc8703e5e017a7fa3ea31b7b42d276a56a3059366902"), looks := false }, kinds := [], alts := [], laidByText := true, laidKinds := [.data, .data], laidTests := true, laidLooks := .later }
def VaultWrapsCardSaid : Prop := Claim7.holds Tryd.pinned (.plain (OpenSpec.ofChange vaultWrapsSpec)) vaultWrapsCard

/-- THE TIED CARD OF 'engrosserlaw17.VaultUnwraps'. -/
def vaultUnwrapsCard : Claim7 := { stood := { row := vaultUnwrapsRow, standIns := [], harness := (true, "a63846273fbba94bed51cc8703e5e017a7fa3ea31b7b42d276a56a3059366902"), looks := false }, kinds := [], alts := [], laidByText := true, laidKinds := [.data, .data], laidTests := true, laidLooks := .later }
def VaultUnwrapsCardSaid : Prop := Claim7.holds Tryd.pinned (.plain (OpenSpec.ofChange vaultUnwrapsSpec)) vaultUnwrapsCard

/-- THE TIED CARD OF 'engrosserlaw17.VaultContexts'. -/
def vaultContextsCard : Claim7 := { stood := { row := vaultContextsRow, standIns := [], harness := (true, "a63846273fbba94bed51cc8703e5e017a7fa3ea31b7b42d276a56a3059366902"), looks := false }, kinds := [], alts := [], laidByText := true, laidKinds := [.data, .data], laidTests := true, laidLooks := .later }
def VaultContextsCardSaid : Prop := Claim7.holds Tryd.pinned (.plain (OpenSpec.ofChange vaultContextsSpec)) vaultContextsCard

/-- THE SECOND FORM's CARD OF 'engrosserlaw17.VaultWraps'. -/
def vaultWrapsUptoCard : Claim7 := { stood := { row := vaultWrapsUptoRow, standIns := [], harness := (true, "a63846273fbba94bed51cc8703e5e017a7fa3ea31b7b42d276a56a3059366902"), looks := false }, kinds := [], alts := [], laidByText := true, laidKinds := [.data, .data], laidTests := true, laidLooks := .later }
def VaultWrapsUptoCardSaid : Prop := Claim7.holds Tryd.pinned (.plain (OpenSpec.upto vaultWrapsSpec)) vaultWrapsUptoCard

/-- THE SECOND FORM's CARD OF 'engrosserlaw17.VaultUnwraps'. -/
def vaultUnwrapsUptoCard : Claim7 := { stood := { row := vaultUnwrapsUptoRow, standIns := [], harness := (true, "a63846273fbba94bed51cc8703e5e017a7fa3ea31b7b42d276a56a3059366902"), looks := false }, kinds := [], alts := [], laidByText := true, laidKinds := [.data, .data], laidTests := true, laidLooks := .later }
def VaultUnwrapsUptoCardSaid : Prop := Claim7.holds Tryd.pinned (.plain (OpenSpec.upto vaultUnwrapsSpec)) vaultUnwrapsUptoCard

/-- THE SECOND FORM's CARD OF 'engrosserlaw17.VaultContexts'. -/
def vaultContextsUptoCard : Claim7 := { stood := { row := vaultContextsUptoRow, standIns := [], harness := (true, "a63846273fbba94bed51cc8703e5e017a7fa3ea31b7b42d276a56a3059366902"), looks := false }, kinds := [], alts := [], laidByText := true, laidKinds := [.data, .data], laidTests := true, laidLooks := .later }
def VaultContextsUptoCardSaid : Prop := Claim7.holds Tryd.pinned (.plain (OpenSpec.upto vaultContextsSpec)) vaultContextsUptoCard
end Rows
end Go.Proofs.YtgfljldegodpgaaDoor
