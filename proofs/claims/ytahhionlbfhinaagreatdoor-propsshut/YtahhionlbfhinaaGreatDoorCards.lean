/-
  DERIVED. GIVEN WITH THE SEED: THE CARDS: each row of YtahhionlbfhinaaGreatDoorRows.lean that lists a variable, with what it lists TIED to the program's text (the seventh form; the later family's looks); each row that meets fmt, with fmt's text TOLD by the authors' own Lean function (tested against real Go, not proved from fmt's source: count such statements apart). THE CARD IS WHAT COUNTS. Prove the row's statement (the work); the ties are given (YtahhionlbfhinaaGreatDoorTie.lean); close each card by the builder's one call (the guide's Derived/Test/ToyasCard.lean, 'card_holds'). Laid BY PROGRAM, IN A SANDBOX (cutbox-door.mjs). By AI agents, Wed Nov 11 2026. No macro, syntax, notation, axiom, sorry.
-/
import Derived.Test.YtahhionlbfhinaaGreatDoorRows
import GoSem.ClaimSeven
namespace Go.Proofs.YtahhionlbfhinaaGreatDoor
namespace Rows

/-- THE TIED CARD OF 'brazierlaw14.PropsAll'. -/
def propsAllCard : Claim7 := { stood := { row := propsAllRow, standIns := [], harness := (true, "baf2b2ac6b694132c1b3db53c83db7585de79e8f73d582953bd245fed34bbacd"), looks := false }, kinds := [], alts := [], laidByText := true, laidKinds := [.data, .data, .data, .data], laidTests := true, laidLooks := .later }
def PropsAllCardSaid : Prop := Claim7.holds Tryz.pinned (.plain (OpenSpec.ofChange propsAllSpec)) propsAllCard

/-- THE TIED CARD OF 'brazierlaw14.PropsWish'. -/
def propsWishCard : Claim7 := { stood := { row := propsWishRow, standIns := [], harness := (true, "baf2b2ac6b694132c1b3db53c83db7585de79e8f73d582953bd245fed34bbacd"), looks := false }, kinds := [], alts := [], laidByText := true, laidKinds := [.data], laidTests := true, laidLooks := .later }
def PropsWishCardSaid : Prop := Claim7.holds Tryz.pinned (.plain (OpenSpec.ofChange propsWishSpec)) propsWishCard

/-- THE TIED CARD OF 'brazierlaw14.PropsShut'. -/
def propsShutCard : Claim7 := { stood := { row := propsShutRow, standIns := [], harness := (true, "baf2b2ac6b694132c1b3db53c83db7585de79e8f73d582953bd245fed34bbacd"), looks := false }, kinds := [], alts := [], laidByText := true, laidKinds := [.data, .data, .data, .data], laidTests := true, laidLooks := .later }
def PropsShutCardSaid : Prop := Claim7.holds Tryz.pinned (.plain (OpenSpec.ofChange propsShutSpec)) propsShutCard

/-- THE TIED CARD OF 'brazierlaw14.PropsRings'. -/
def propsRingsCard : Claim7 := { stood := { row := propsRingsRow, standIns := [], harness := (true, "baf2b2ac6b694132c1b3db53c83db7585de79e8f73d582953bd245fed34bbacd"), looks := false }, kinds := [], alts := [], laidByText := true, laidKinds := [.data, .data, .data, .data], laidTests := true, laidLooks := .later }
def PropsRingsCardSaid : Prop := Claim7.holds Tryz.pinned (.plain (OpenSpec.ofChange propsRingsSpec)) propsRingsCard

/-- THE TIED CARD OF 'brazierlaw14.PropsSlots'. -/
def propsSlotsCard : Claim7 := { stood := { row := propsSlotsRow, standIns := [], harness := (true, "baf2b2ac6b694132c1b3db53c83db7585de79e8f73d582953bd245fed34bbacd"), looks := false }, kinds := [], alts := [], laidByText := true, laidKinds := [.data, .data, .data, .data], laidTests := true, laidLooks := .later }
def PropsSlotsCardSaid : Prop := Claim7.holds Tryz.pinned (.plain (OpenSpec.ofChange propsSlotsSpec)) propsSlotsCard

/-- THE SECOND FORM's CARD OF 'brazierlaw14.PropsAll'. -/
def propsAllUptoCard : Claim7 := { stood := { row := propsAllUptoRow, standIns := [], harness := (true, "baf2b2ac6b694132c1b3db53c83db7585de79e8f73d582953bd245fed34bbacd"), looks := false }, kinds := [], alts := [], laidByText := true, laidKinds := [.data, .data, .data, .data], laidTests := true, laidLooks := .later }
def PropsAllUptoCardSaid : Prop := Claim7.holds Tryz.pinned (.plain (OpenSpec.upto propsAllSpec)) propsAllUptoCard

/-- THE SECOND FORM's CARD OF 'brazierlaw14.PropsWish'. -/
def propsWishUptoCard : Claim7 := { stood := { row := propsWishUptoRow, standIns := [], harness := (true, "baf2b2ac6b694132c1b3db53c83db7585de79e8f73d582953bd245fed34bbacd"), looks := false }, kinds := [], alts := [], laidByText := true, laidKinds := [.data], laidTests := true, laidLooks := .later }
def PropsWishUptoCardSaid : Prop := Claim7.holds Tryz.pinned (.plain (OpenSpec.upto propsWishSpec)) propsWishUptoCard

/-- THE SECOND FORM's CARD OF 'brazierlaw14.PropsShut'. -/
def propsShutUptoCard : Claim7 := { stood := { row := propsShutUptoRow, standIns := [], harness := (true, "baf2b2ac6b694132c1b3db53c83db7585de79e8f73d582953bd245fed34bbacd"), looks := false }, kinds := [], alts := [], laidByText := true, laidKinds := [.data, .data, .data, .data], laidTests := true, laidLooks := .later }
def PropsShutUptoCardSaid : Prop := Claim7.holds Tryz.pinned (.plain (OpenSpec.upto propsShutSpec)) propsShutUptoCard

/-- THE SECOND FORM's CARD OF 'brazierlaw14.PropsRings'. -/
def propsRingsUptoCard : Claim7 := { stood := { row := propsRingsUptoRow, standIns := [], harness := (true, "baf2b2ac6b694132c1b3db53c83db7585de79e8f73d582953bd245fed34bbacd"), looks := false }, kinds := [], alts := [], laidByText := true, laidKinds := [.data, .data, .data, .data], laidTests := true, laidLooks := .later }
def PropsRingsUptoCardSaid : Prop := Claim7.holds Tryz.pinned (.plain (OpenSpec.upto propsRingsSpec)) propsRingsUptoCard

/-- THE SECOND FORM's CARD OF 'brazierlaw14.PropsSlots'. -/
def propsSlotsUptoCard : Claim7 := { stood := { row := propsSlotsUptoRow, standIns := [], harness := (true, "baf2b2ac6b694132c1b3db53c83db7585de79e8f73d582953bd245fed34bbacd"), looks := false }, kinds := [], alts := [], laidByText := true, laidKinds := [.data, .data, .data, .data], laidTests := true, laidLooks := .later }
def PropsSlotsUptoCardSaid : Prop := Claim7.holds Tryz.pinned (.plain (OpenSpec.upto propsSlotsSpec)) propsSlotsUptoCard
end Rows
end Go.Proofs.YtahhionlbfhinaaGreatDoor
