/-
  DERIVED. GIVEN WITH THE SEED: THE CARDS: each row of YtkpenodbjmhoeaaDoorRows.lean that lists a variable, with what it lists TIED to the program's text (the seventh form; the later family's looks); each row that meets fmt, with fmt's text TOLD by the authors' own Lean function (tested against real Go, not proved from fmt's source: count such statements apart). THE CARD IS WHAT COUNTS. Prove the row's statement (the work); the ties are given (YtkpenodbjmhoeaaDoorTie.lean); close each card by the builder's one call (the guide's Derived/Test/ToyasCard.lean, 'card_holds'). Laid BY PROGRAM, IN A SANDBOX (cutbox-door.mjs). By AI agents, Wed Nov 11 2026. No macro, syntax, notation, axiom, sorry.
-/
import Derived.Test.YtkpenodbjmhoeaaDoorRows
import GoSem.ClaimSeven
namespace Go.Proofs.YtkpenodbjmhoeaaDoor
namespace Rows

/-- THE TIED CARD OF 'engrosserlaw08.HpkeSeals'. -/
def hpkeSealsCard : Claim7 := { stood := { row := hpkeSealsRow, standIns := [], harness := (true, "37c0547448bb8f995e6cb9bea16dc37c5754038cf1adc081b34f0e55a1ea0372"), looks := false }, kinds := [], alts := [], laidByText := true, laidKinds := [.data, .data], laidTests := true, laidLooks := .later }
def HpkeSealsCardSaid : Prop := Claim7.holds Tryd.pinned (.plain (OpenSpec.ofChange hpkeSealsSpec)) hpkeSealsCard

/-- THE TIED CARD OF 'engrosserlaw08.HpkeOpens'. -/
def hpkeOpensCard : Claim7 := { stood := { row := hpkeOpensRow, standIns := [], harness := (true, "37c0547448bb8f995e6cb9bea16dc37c5754038cf1adc081b34f0e55a1ea0372"), looks := false }, kinds := [], alts := [], laidByText := true, laidKinds := [.data, .data], laidTests := true, laidLooks := .later }
def HpkeOpensCardSaid : Prop := Claim7.holds Tryd.pinned (.plain (OpenSpec.ofChange hpkeOpensSpec)) hpkeOpensCard

/-- THE TIED CARD OF 'engrosserlaw08.HpkeBack'. -/
def hpkeBackCard : Claim7 := { stood := { row := hpkeBackRow, standIns := [], harness := (true, "37c0547448bb8f995e6cb9bea16dc37c5754038cf1adc081b34f0e55a1ea0372"), looks := false }, kinds := [], alts := [], laidByText := true, laidKinds := [.data, .data], laidTests := true, laidLooks := .later }
def HpkeBackCardSaid : Prop := Claim7.holds Tryd.pinned (.plain (OpenSpec.ofChange hpkeBackSpec)) hpkeBackCard

/-- THE TIED CARD OF 'engrosserlaw08.HpkeReads'. -/
def hpkeReadsCard : Claim7 := { stood := { row := hpkeReadsRow, standIns := [], harness := (true, "37c0547448bb8f995e6cb9bea16dc37c5754038cf1adc081b34f0e55a1ea0372"), looks := false }, kinds := [], alts := [], laidByText := true, laidKinds := [.data, .data], laidTests := true, laidLooks := .later }
def HpkeReadsCardSaid : Prop := Claim7.holds Tryd.pinned (.plain (OpenSpec.ofChange hpkeReadsSpec)) hpkeReadsCard

/-- THE SECOND FORM's CARD OF 'engrosserlaw08.HpkeSeals'. -/
def hpkeSealsUptoCard : Claim7 := { stood := { row := hpkeSealsUptoRow, standIns := [], harness := (true, "37c0547448bb8f995e6cb9bea16dc37c5754038cf1adc081b34f0e55a1ea0372"), looks := false }, kinds := [], alts := [], laidByText := true, laidKinds := [.data, .data], laidTests := true, laidLooks := .later }
def HpkeSealsUptoCardSaid : Prop := Claim7.holds Tryd.pinned (.plain (OpenSpec.upto hpkeSealsSpec)) hpkeSealsUptoCard

/-- THE SECOND FORM's CARD OF 'engrosserlaw08.HpkeOpens'. -/
def hpkeOpensUptoCard : Claim7 := { stood := { row := hpkeOpensUptoRow, standIns := [], harness := (true, "37c0547448bb8f995e6cb9bea16dc37c5754038cf1adc081b34f0e55a1ea0372"), looks := false }, kinds := [], alts := [], laidByText := true, laidKinds := [.data, .data], laidTests := true, laidLooks := .later }
def HpkeOpensUptoCardSaid : Prop := Claim7.holds Tryd.pinned (.plain (OpenSpec.upto hpkeOpensSpec)) hpkeOpensUptoCard

/-- THE SECOND FORM's CARD OF 'engrosserlaw08.HpkeBack'. -/
def hpkeBackUptoCard : Claim7 := { stood := { row := hpkeBackUptoRow, standIns := [], harness := (true, "37c0547448bb8f995e6cb9bea16dc37c5754038cf1adc081b34f0e55a1ea0372"), looks := false }, kinds := [], alts := [], laidByText := true, laidKinds := [.data, .data], laidTests := true, laidLooks := .later }
def HpkeBackUptoCardSaid : Prop := Claim7.holds Tryd.pinned (.plain (OpenSpec.upto hpkeBackSpec)) hpkeBackUptoCard

/-- THE SECOND FORM's CARD OF 'engrosserlaw08.HpkeReads'. -/
def hpkeReadsUptoCard : Claim7 := { stood := { row := hpkeReadsUptoRow, standIns := [], harness := (true, "37c0547448bb8f995e6cb9bea16dc37c5754038cf1adc081b34f0e55a1ea0372"), looks := false }, kinds := [], alts := [], laidByText := true, laidKinds := [.data, .data], laidTests := true, laidLooks := .later }
def HpkeReadsUptoCardSaid : Prop := Claim7.holds Tryd.pinned (.plain (OpenSpec.upto hpkeReadsSpec)) hpkeReadsUptoCard
end Rows
end Go.Proofs.YtkpenodbjmhoeaaDoor
