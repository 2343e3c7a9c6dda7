/-
  DERIVED. GIVEN WITH THE SEED: THE CARDS: each row of YtocligpfmfmihabGreatDoorRows.lean that lists a variable, with what it lists TIED to the program's text (the seventh form; the later family's looks); each row that meets fmt, with fmt's text TOLD by the authors' own Lean function (tested against real Go, not proved from fmt's source: count such statements apart). THE CARD IS WHAT COUNTS. Prove the row's statement (the work); the ties are given (YtocligpfmfmihabGreatDoorTie.lean); close each card by the builder's one call (the guide's Derived/Test/ToyasCard.lean, 'card_holds'). Laid BY PROGRAM, IN A SANDBOX (cutbox-door.mjs). By AI agents, Wed Nov 11 2026. No macro, syntax, notation, axiom, sorry.
-/
import Derived.Test.YtocligpfmfmihabGreatDoorRows
import GoSem.ClaimSeven
namespace Go.Proofs.YtocligpfmfmihabGreatDoor
namespace Rows

/-- THE TIED CARD OF 'notarykeep.Fetched'. -/
def fetchedCard : Claim7 := { stood := { row := fetchedRow, standIns := [], harness := (true, "8ee073b359c0cae2f266976f42a2a8a797ba70e0b2ff73c1d43f8a875351c6c5"), looks := true }, kinds := [], alts := [], goes := true, laidByText := true, laidKinds := [.data, .data, .data, .data, .handle, .sentinel, .sentinel, .sentinel, .sentinel, .sentinel, .sentinel, .sentinel, .sentinel, .sentinel, .sentinel, .sentinel, .sentinel, .sentinel, .sentinel, .sentinel, .sentinel, .sentinel, .sentinel, .sentinel, .sentinel, .sentinel, .sentinel, .sentinel, .sentinel, .pinned], laidTests := true, laidLooks := .later }
def FetchedCardSaid : Prop := Claim7.holds Tryz.pinned (.plain (OpenSpec.ofChange fetchedSpec)) fetchedCard

/-- THE TIED CARD OF 'notarykeep.Grows'. -/
def growsCard : Claim7 := { stood := { row := growsRow, standIns := [], harness := (true, "8ee073b359c0cae2f266976f42a2a8a797ba70e0b2ff73c1d43f8a875351c6c5"), looks := true }, kinds := [], alts := [], goes := true, laidByText := true, laidKinds := [.data, .data, .data, .data, .handle, .sentinel, .sentinel, .sentinel, .sentinel, .sentinel, .sentinel, .sentinel, .sentinel, .sentinel, .sentinel, .sentinel, .sentinel, .sentinel, .sentinel, .sentinel, .sentinel, .sentinel, .sentinel, .sentinel, .sentinel, .sentinel, .sentinel, .pinned], laidTests := true, laidLooks := .later }
def GrowsCardSaid : Prop := Claim7.holds Tryz.pinned (.plain (OpenSpec.ofChange growsSpec)) growsCard

/-- THE TIED CARD OF 'notarykeep.Each'. -/
def eachCard : Claim7 := { stood := { row := eachRow, standIns := [], harness := (true, "8ee073b359c0cae2f266976f42a2a8a797ba70e0b2ff73c1d43f8a875351c6c5"), looks := true }, kinds := [], alts := [], goes := true, laidByText := true, laidKinds := [.data, .data, .data, .data, .handle, .sentinel, .sentinel, .sentinel, .sentinel, .sentinel, .sentinel, .sentinel, .sentinel, .sentinel, .sentinel, .sentinel, .sentinel, .sentinel, .sentinel, .sentinel, .sentinel, .sentinel, .sentinel, .sentinel, .sentinel, .sentinel, .sentinel, .sentinel, .sentinel, .pinned], laidTests := true, laidLooks := .later }
def EachCardSaid : Prop := Claim7.holds Tryz.pinned (.plain (OpenSpec.ofChange eachSpec)) eachCard

/-- THE SECOND FORM's CARD OF 'notarykeep.Fetched'. -/
def fetchedUptoCard : Claim7 := { stood := { row := fetchedUptoRow, standIns := [], harness := (true, "8ee073b359c0cae2f266976f42a2a8a797ba70e0b2ff73c1d43f8a875351c6c5"), looks := true }, kinds := [], alts := [], goes := true, laidByText := true, laidKinds := [.data, .data, .data, .data, .handle, .sentinel, .sentinel, .sentinel, .sentinel, .sentinel, .sentinel, .sentinel, .sentinel, .sentinel, .sentinel, .sentinel, .sentinel, .sentinel, .sentinel, .sentinel, .sentinel, .sentinel, .sentinel, .sentinel, .sentinel, .sentinel, .sentinel, .sentinel, .sentinel, .pinned], laidTests := true, laidLooks := .later }
def FetchedUptoCardSaid : Prop := Claim7.holds Tryz.pinned (.plain (OpenSpec.upto fetchedSpec)) fetchedUptoCard

/-- THE SECOND FORM's CARD OF 'notarykeep.Grows'. -/
def growsUptoCard : Claim7 := { stood := { row := growsUptoRow, standIns := [], harness := (true, "8ee073b359c0cae2f266976f42a2a8a797ba70e0b2ff73c1d43f8a875351c6c5"), looks := true }, kinds := [], alts := [], goes := true, laidByText := true, laidKinds := [.data, .data, .data, .data, .handle, .sentinel, .sentinel, .sentinel, .sentinel, .sentinel, .sentinel, .sentinel, .sentinel, .sentinel, .sentinel, .sentinel, .sentinel, .sentinel, .sentinel, .sentinel, .sentinel, .sentinel, .sentinel, .sentinel, .sentinel, .sentinel, .sentinel, .pinned], laidTests := true, laidLooks := .later }
def GrowsUptoCardSaid : Prop := Claim7.holds Tryz.pinned (.plain (OpenSpec.upto growsSpec)) growsUptoCard

/-- THE SECOND FORM's CARD OF 'notarykeep.Each'. -/
def eachUptoCard : Claim7 := { stood := { row := eachUptoRow, standIns := [], harness := (true, "8ee073b359c0cae2f266976f42a2a8a797ba70e0b2ff73c1d43f8a875351c6c5"), looks := true }, kinds := [], alts := [], goes := true, laidByText := true, laidKinds := [.data, .data, .data, .data, .handle, .sentinel, .sentinel, .sentinel, .sentinel, .sentinel, .sentinel, .sentinel, .sentinel, .sentinel, .sentinel, .sentinel, .sentinel, .sentinel, .sentinel, .sentinel, .sentinel, .sentinel, .sentinel, .sentinel, .sentinel, .sentinel, .sentinel, .sentinel, .sentinel, .pinned], laidTests := true, laidLooks := .later }
def EachUptoCardSaid : Prop := Claim7.holds Tryz.pinned (.plain (OpenSpec.upto eachSpec)) eachUptoCard
end Rows
end Go.Proofs.YtocligpfmfmihabGreatDoor
