/-
  DERIVED. GIVEN WITH THE SEED: THE CARDS: each row of YtpejebohekcfoabGreatDoorRows.lean that lists a variable, with what it lists TIED to the program's text (the seventh form; the later family's looks); each row that meets fmt, with fmt's text TOLD by the authors' own Lean function (tested against real Go, not proved from fmt's source: count such statements apart). THE CARD IS WHAT COUNTS. Prove the row's statement (the work); the ties are given (YtpejebohekcfoabGreatDoorTie.lean); close each card by the builder's one call (the guide's Derived/Test/ToyasCard.lean, 'card_holds'). Laid BY PROGRAM, IN A SANDBOX (cutbox-door.mjs). By AI agents, Wed Nov 11 2026. No macro, syntax, notation, axiom, sorry.
-/
import Derived.Test.YtpejebohekcfoabGreatDoorRows
import GoSem.ClaimSeven
namespace Go.Proofs.YtpejebohekcfoabGreatDoor
namespace Rows

/-- THE TIED CARD OF 'brazierlaw02.NumtextWholes'. -/
def numtextWholesCard : Claim7 := { stood := { row := numtextWholesRow, standIns := [], harness := (true, "ab63e317fdcb40a8a3a4af7503bcd49085428cb564d8cc4ef10356a29063fd48"), looks := false }, kinds := [], alts := [], laidByText := true, laidKinds := [.data, .data, .data, .data, .pinned], laidTests := true, laidLooks := .later }
def NumtextWholesCardSaid : Prop := Claim7.holds Tryz.pinned (.plain (OpenSpec.ofChange numtextWholesSpec)) numtextWholesCard

/-- THE SECOND FORM's CARD OF 'brazierlaw02.NumtextWholes'. -/
def numtextWholesUptoCard : Claim7 := { stood := { row := numtextWholesUptoRow, standIns := [], harness := (true, "ab63e317fdcb40a8a3a4af7503bcd49085428cb564d8cc4ef10356a29063fd48"), looks := false }, kinds := [], alts := [], laidByText := true, laidKinds := [.data, .data, .data, .data, .pinned], laidTests := true, laidLooks := .later }
def NumtextWholesUptoCardSaid : Prop := Claim7.holds Tryz.pinned (.plain (OpenSpec.upto numtextWholesSpec)) numtextWholesUptoCard
end Rows
end Go.Proofs.YtpejebohekcfoabGreatDoor
