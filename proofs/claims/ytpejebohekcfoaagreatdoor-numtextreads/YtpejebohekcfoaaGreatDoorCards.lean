/-
  DERIVED. GIVEN WITH THE SEED: THE CARDS: each row of YtpejebohekcfoaaGreatDoorRows.lean that lists a variable, with what it lists TIED to the program's text (the seventh form; the later family's looks); each row that meets fmt, with fmt's text TOLD by the authors' own Lean function (tested against real Go, not proved from fmt's source: count such statements apart). THE CARD IS WHAT COUNTS. Prove the row's statement (the work); the ties are given (YtpejebohekcfoaaGreatDoorTie.lean); close each card by the builder's one call (the guide's Derived/Test/ToyasCard.lean, 'card_holds'). Laid BY PROGRAM, IN A SANDBOX (cutbox-door.mjs). By AI agents, Wed Nov 11 2026. No macro, syntax, notation, axiom, sorry.
-/
import Derived.Test.YtpejebohekcfoaaGreatDoorRows
import GoSem.ClaimSeven
namespace Go.Proofs.YtpejebohekcfoaaGreatDoor
namespace Rows

/-- THE TIED CARD OF 'brazierlaw02.NumtextPrints'. -/
def numtextPrintsCard : Claim7 := { stood := { row := numtextPrintsRow, standIns := [], harness := (true, "e4cf7513d61566c0801be9b83f472623bea16ca537fac71333b6bf3760e030dd"), looks := true }, kinds := [], alts := [], laidByText := true, laidKinds := [.data, .data, .data, .data, .pinned], laidTests := true, laidLooks := .later }
def NumtextPrintsCardSaid : Prop := Claim7.holds Tryz.pinned (.plain (OpenSpec.ofChange numtextPrintsSpec)) numtextPrintsCard

/-- THE TIED CARD OF 'brazierlaw02.NumtextReads'. -/
def numtextReadsCard : Claim7 := { stood := { row := numtextReadsRow, standIns := [], harness := (true, "e4cf7513d61566c0801be9b83f472623bea16ca537fac71333b6bf3760e030dd"), looks := true }, kinds := [], alts := [], laidByText := true, laidKinds := [.data, .data, .data, .data, .pinned], laidTests := true, laidLooks := .later }
def NumtextReadsCardSaid : Prop := Claim7.holds Tryz.pinned (.plain (OpenSpec.ofChange numtextReadsSpec)) numtextReadsCard

/-- THE TIED CARD OF 'brazierlaw02.NumtextBack'. -/
def numtextBackCard : Claim7 := { stood := { row := numtextBackRow, standIns := [], harness := (true, "e4cf7513d61566c0801be9b83f472623bea16ca537fac71333b6bf3760e030dd"), looks := true }, kinds := [], alts := [], laidByText := true, laidKinds := [.data, .data, .data, .data, .pinned], laidTests := true, laidLooks := .later }
def NumtextBackCardSaid : Prop := Claim7.holds Tryz.pinned (.plain (OpenSpec.ofChange numtextBackSpec)) numtextBackCard

/-- THE TIED CARD OF 'brazierlaw02.NumtextShort'. -/
def numtextShortCard : Claim7 := { stood := { row := numtextShortRow, standIns := [], harness := (true, "e4cf7513d61566c0801be9b83f472623bea16ca537fac71333b6bf3760e030dd"), looks := true }, kinds := [], alts := [], laidByText := true, laidKinds := [.data, .data, .data, .data, .sentinel, .sentinel, .pinned], laidTests := true, laidLooks := .later }
def NumtextShortCardSaid : Prop := Claim7.holds Tryz.pinned (.plain (OpenSpec.ofChange numtextShortSpec)) numtextShortCard

/-- THE TIED CARD OF 'brazierlaw02.NumtextBlanks'. -/
def numtextBlanksCard : Claim7 := { stood := { row := numtextBlanksRow, standIns := [], harness := (true, "e4cf7513d61566c0801be9b83f472623bea16ca537fac71333b6bf3760e030dd"), looks := true }, kinds := [], alts := [], laidByText := true, laidKinds := [.data, .data, .data, .data, .pinned], laidTests := true, laidLooks := .later }
def NumtextBlanksCardSaid : Prop := Claim7.holds Tryz.pinned (.plain (OpenSpec.ofChange numtextBlanksSpec)) numtextBlanksCard

/-- THE TIED CARD OF 'brazierlaw02.NumtextPoints'. -/
def numtextPointsCard : Claim7 := { stood := { row := numtextPointsRow, standIns := [], harness := (true, "e4cf7513d61566c0801be9b83f472623bea16ca537fac71333b6bf3760e030dd"), looks := true }, kinds := [], alts := [], laidByText := true, laidKinds := [.data, .data, .data, .data, .pinned], laidTests := true, laidLooks := .later }
def NumtextPointsCardSaid : Prop := Claim7.holds Tryz.pinned (.plain (OpenSpec.ofChange numtextPointsSpec)) numtextPointsCard

/-- THE SECOND FORM's CARD OF 'brazierlaw02.NumtextPrints'. -/
def numtextPrintsUptoCard : Claim7 := { stood := { row := numtextPrintsUptoRow, standIns := [], harness := (true, "e4cf7513d61566c0801be9b83f472623bea16ca537fac71333b6bf3760e030dd"), looks := true }, kinds := [], alts := [], laidByText := true, laidKinds := [.data, .data, .data, .data, .pinned], laidTests := true, laidLooks := .later }
def NumtextPrintsUptoCardSaid : Prop := Claim7.holds Tryz.pinned (.plain (OpenSpec.upto numtextPrintsSpec)) numtextPrintsUptoCard

/-- THE SECOND FORM's CARD OF 'brazierlaw02.NumtextReads'. -/
def numtextReadsUptoCard : Claim7 := { stood := { row := numtextReadsUptoRow, standIns := [], harness := (true, "e4cf7513d61566c0801be9b83f472623bea16ca537fac71333b6bf3760e030dd"), looks := true }, kinds := [], alts := [], laidByText := true, laidKinds := [.data, .data, .data, .data, .pinned], laidTests := true, laidLooks := .later }
def NumtextReadsUptoCardSaid : Prop := Claim7.holds Tryz.pinned (.plain (OpenSpec.upto numtextReadsSpec)) numtextReadsUptoCard

/-- THE SECOND FORM's CARD OF 'brazierlaw02.NumtextBack'. -/
def numtextBackUptoCard : Claim7 := { stood := { row := numtextBackUptoRow, standIns := [], harness := (true, "e4cf7513d61566c0801be9b83f472623bea16ca537fac71333b6bf3760e030dd"), looks := true }, kinds := [], alts := [], laidByText := true, laidKinds := [.data, .data, .data, .data, .pinned], laidTests := true, laidLooks := .later }
def NumtextBackUptoCardSaid : Prop := Claim7.holds Tryz.pinned (.plain (OpenSpec.upto numtextBackSpec)) numtextBackUptoCard

/-- THE SECOND FORM's CARD OF 'brazierlaw02.NumtextShort'. -/
def numtextShortUptoCard : Claim7 := { stood := { row := numtextShortUptoRow, standIns := [], harness := (true, "e4cf7513d61566c0801be9b83f472623bea16ca537fac71333b6bf3760e030dd"), looks := true }, kinds := [], alts := [], laidByText := true, laidKinds := [.data, .data, .data, .data, .sentinel, .sentinel, .pinned], laidTests := true, laidLooks := .later }
def NumtextShortUptoCardSaid : Prop := Claim7.holds Tryz.pinned (.plain (OpenSpec.upto numtextShortSpec)) numtextShortUptoCard

/-- THE SECOND FORM's CARD OF 'brazierlaw02.NumtextBlanks'. -/
def numtextBlanksUptoCard : Claim7 := { stood := { row := numtextBlanksUptoRow, standIns := [], harness := (true, "e4cf7513d61566c0801be9b83f472623bea16ca537fac71333b6bf3760e030dd"), looks := true }, kinds := [], alts := [], laidByText := true, laidKinds := [.data, .data, .data, .data, .pinned], laidTests := true, laidLooks := .later }
def NumtextBlanksUptoCardSaid : Prop := Claim7.holds Tryz.pinned (.plain (OpenSpec.upto numtextBlanksSpec)) numtextBlanksUptoCard

/-- THE SECOND FORM's CARD OF 'brazierlaw02.NumtextPoints'. -/
def numtextPointsUptoCard : Claim7 := { stood := { row := numtextPointsUptoRow, standIns := [], harness := (true, "e4cf7513d61566c0801be9b83f472623bea16ca537fac71333b6bf3760e030dd"), looks := true }, kinds := [], alts := [], laidByText := true, laidKinds := [.data, .data, .data, .data, .pinned], laidTests := true, laidLooks := .later }
def NumtextPointsUptoCardSaid : Prop := Claim7.holds Tryz.pinned (.plain (OpenSpec.upto numtextPointsSpec)) numtextPointsUptoCard
end Rows
end Go.Proofs.YtpejebohekcfoaaGreatDoor
