/-
  DERIVED. GIVEN WITH THE SEED: THE CARDS: each row of YtfilimhjhaokkaaDoorRows.lean that lists a variable, with what it lists TIED to the program's text (the seventh form; the later family's looks); each row that meets fmt, with fmt's text TOLD by the authors' own Lean function (tested against real Go, not proved from fmt's source: count such statements apart). THE CARD IS WHAT COUNTS. Prove the row's statement (the work); the ties are given (YtfilimhjhaokkaaDoorTie.lean); close each card by the builder's one call (the guide's Derived/Test/ToyasCard.lean, 'card_holds'). Laid BY PROGRAM, IN A SANDBOX (cutbox-door.mjs). By AI agents, Wed Nov 11 2026. No macro, syntax, notation, axiom, sorry.
-/
import Derived.Test.YtfilimhjhaokkaaDoorRows
import GoSem.ClaimSeven
namespace Go.Proofs.YtfilimhjhaokkaaDoor
namespace Rows

/-- THE TIED CARD OF 'engrosserlaw07.PowerKeys'. -/
def powerKeysCard : Claim7 := { stood := { row := powerKeysRow, standIns := [], harness := (true, "83b4100897daa13df480913f88a92326adace3f673f6495a1e65b5d1b8d094c6"), looks := false }, kinds := [], alts := [], laidByText := true, laidKinds := [.data, .data], laidTests := true, laidLooks := .later }
def PowerKeysCardSaid : Prop := Claim7.holds Tryd.pinned (.plain (OpenSpec.ofChange powerKeysSpec)) powerKeysCard

/-- THE TIED CARD OF 'engrosserlaw07.PowerShares'. -/
def powerSharesCard : Claim7 := { stood := { row := powerSharesRow, standIns := [], harness := (true, "83b4100897daa13df480913f88a92326adace3f673f6495a1e65b5d1b8d094c6"), looks := false }, kinds := [], alts := [], laidByText := true, laidKinds := [.data, .data], laidTests := true, laidLooks := .later }
def PowerSharesCardSaid : Prop := Claim7.holds Tryd.pinned (.plain (OpenSpec.ofChange powerSharesSpec)) powerSharesCard

/-- THE SECOND FORM's CARD OF 'engrosserlaw07.PowerKeys'. -/
def powerKeysUptoCard : Claim7 := { stood := { row := powerKeysUptoRow, standIns := [], harness := (true, "83b4100897daa13df480913f88a92326adace3f673f6495a1e65b5d1b8d094c6"), looks := false }, kinds := [], alts := [], laidByText := true, laidKinds := [.data, .data], laidTests := true, laidLooks := .later }
def PowerKeysUptoCardSaid : Prop := Claim7.holds Tryd.pinned (.plain (OpenSpec.upto powerKeysSpec)) powerKeysUptoCard

/-- THE SECOND FORM's CARD OF 'engrosserlaw07.PowerShares'. -/
def powerSharesUptoCard : Claim7 := { stood := { row := powerSharesUptoRow, standIns := [], harness := (true, "83b4100897daa13df480913f88a92326adace3f673f6495a1e65b5d1b8d094c6"), looks := false }, kinds := [], alts := [], laidByText := true, laidKinds := [.data, .data], laidTests := true, laidLooks := .later }
def PowerSharesUptoCardSaid : Prop := Claim7.holds Tryd.pinned (.plain (OpenSpec.upto powerSharesSpec)) powerSharesUptoCard
end Rows
end Go.Proofs.YtfilimhjhaokkaaDoor
