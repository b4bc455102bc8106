/-
  DERIVED. GIVEN WITH THE SEED: THE CARDS: each row of YtahhionlbfhinabGreatDoorRows.lean that lists a variable, with what it lists TIED to the program's text (the seventh form; the later family's looks); each row that meets fmt, with fmt's text TOLD by the authors' own Lean function (tested against real Go, not proved from fmt's source: count such statements apart). THE CARD IS WHAT COUNTS. Prove the row's statement (the work); the ties are given (YtahhionlbfhinabGreatDoorTie.lean); close each card by the builder's one call (the guide's Derived/Test/ToyasCard.lean, 'card_holds'). Laid BY PROGRAM, IN A SANDBOX (cutbox-door.mjs). By AI agents, Wed Nov 11 2026. No macro, syntax, notation, axiom, sorry.
-/
import Derived.Test.YtahhionlbfhinabGreatDoorRows
import GoSem.ClaimSeven
namespace Go.Proofs.YtahhionlbfhinabGreatDoor
namespace Rows

/-- THE TIED CARD OF 'brazierlaw14.PropsGiven'. -/
def propsGivenCard : Claim7 := { stood := { row := propsGivenRow, standIns := [], harness := (true, "5e97012ca806bf33140ec5834a84968c7d815abed3d77427c7480ca401941cde"), looks := false }, kinds := [], alts := [], laidByText := true, laidKinds := [.data, .data, .data, .data], laidTests := true, laidLooks := .later }
def PropsGivenCardSaid : Prop := Claim7.holds Tryz.pinned (.plain (OpenSpec.ofChange propsGivenSpec)) propsGivenCard

/-- THE TIED CARD OF 'brazierlaw14.PropsFixed'. -/
def propsFixedCard : Claim7 := { stood := { row := propsFixedRow, standIns := [], harness := (true, "5e97012ca806bf33140ec5834a84968c7d815abed3d77427c7480ca401941cde"), looks := false }, kinds := [], alts := [], laidByText := true, laidKinds := [.data, .data, .data, .data], laidTests := true, laidLooks := .later }
def PropsFixedCardSaid : Prop := Claim7.holds Tryz.pinned (.plain (OpenSpec.ofChange propsFixedSpec)) propsFixedCard

/-- THE TIED CARD OF 'brazierlaw14.PropsKeys'. -/
def propsKeysCard : Claim7 := { stood := { row := propsKeysRow, standIns := [], harness := (true, "5e97012ca806bf33140ec5834a84968c7d815abed3d77427c7480ca401941cde"), looks := false }, kinds := [], alts := [], laidByText := true, laidKinds := [.data, .data, .data, .data], laidTests := true, laidLooks := .later }
def PropsKeysCardSaid : Prop := Claim7.holds Tryz.pinned (.plain (OpenSpec.ofChange propsKeysSpec)) propsKeysCard

/-- THE TIED CARD OF 'brazierlaw14.PropsAbove'. -/
def propsAboveCard : Claim7 := { stood := { row := propsAboveRow, standIns := [], harness := (true, "5e97012ca806bf33140ec5834a84968c7d815abed3d77427c7480ca401941cde"), looks := false }, kinds := [], alts := [], laidByText := true, laidKinds := [.data, .data, .data, .data], laidTests := true, laidLooks := .later }
def PropsAboveCardSaid : Prop := Claim7.holds Tryz.pinned (.plain (OpenSpec.ofChange propsAboveSpec)) propsAboveCard

/-- THE SECOND FORM's CARD OF 'brazierlaw14.PropsGiven'. -/
def propsGivenUptoCard : Claim7 := { stood := { row := propsGivenUptoRow, standIns := [], harness := (true, "5e97012ca806bf33140ec5834a84968c7d815abed3d77427c7480ca401941cde"), looks := false }, kinds := [], alts := [], laidByText := true, laidKinds := [.data, .data, .data, .data], laidTests := true, laidLooks := .later }
def PropsGivenUptoCardSaid : Prop := Claim7.holds Tryz.pinned (.plain (OpenSpec.upto propsGivenSpec)) propsGivenUptoCard

/-- THE SECOND FORM's CARD OF 'brazierlaw14.PropsFixed'. -/
def propsFixedUptoCard : Claim7 := { stood := { row := propsFixedUptoRow, standIns := [], harness := (true, "5e97012ca806bf33140ec5834a84968c7d815abed3d77427c7480ca401941cde"), looks := false }, kinds := [], alts := [], laidByText := true, laidKinds := [.data, .data, .data, .data], laidTests := true, laidLooks := .later }
def PropsFixedUptoCardSaid : Prop := Claim7.holds Tryz.pinned (.plain (OpenSpec.upto propsFixedSpec)) propsFixedUptoCard

/-- THE SECOND FORM's CARD OF 'brazierlaw14.PropsKeys'. -/
def propsKeysUptoCard : Claim7 := { stood := { row := propsKeysUptoRow, standIns := [], harness := (true, "5e97012ca806bf33140ec5834a84968c7d815abed3d77427c7480ca401941cde"), looks := false }, kinds := [], alts := [], laidByText := true, laidKinds := [.data, .data, .data, .data], laidTests := true, laidLooks := .later }
def PropsKeysUptoCardSaid : Prop := Claim7.holds Tryz.pinned (.plain (OpenSpec.upto propsKeysSpec)) propsKeysUptoCard

/-- THE SECOND FORM's CARD OF 'brazierlaw14.PropsAbove'. -/
def propsAboveUptoCard : Claim7 := { stood := { row := propsAboveUptoRow, standIns := [], harness := (true, "5e97012ca806bf33140ec5834a84968c7d815abed3d77427c7480ca401941cde"), looks := false }, kinds := [], alts := [], laidByText := true, laidKinds := [.data, .data, .data, .data], laidTests := true, laidLooks := .later }
def PropsAboveUptoCardSaid : Prop := Claim7.holds Tryz.pinned (.plain (OpenSpec.upto propsAboveSpec)) propsAboveUptoCard
end Rows
end Go.Proofs.YtahhionlbfhinabGreatDoor
