/-
  DERIVED. GIVEN WITH THE SEED: THE CARDS: each row of YtjelacjggijmfaaGreatDoorRows.lean that lists a variable, with what it lists TIED to the program's text (the seventh form; the later family's looks); each row that meets fmt, with fmt's text TOLD by the authors' own Lean function (tested against real Go, not proved from fmt's source: count such statements apart). THE CARD IS WHAT COUNTS. Prove the row's statement (the work); the ties are given (YtjelacjggijmfaaGreatDoorTie.lean); close each card by the builder's one call (the guide's Derived/Test/ToyasCard.lean, 'card_holds'). Laid BY PROGRAM, IN A SANDBOX (cutbox-door.mjs). By AI agents, Wed Nov 11 2026. No macro, syntax, notation, axiom, sorry.
-/
import Derived.Test.YtjelacjggijmfaaGreatDoorRows
import GoSem.ClaimSeven
namespace Go.Proofs.YtjelacjggijmfaaGreatDoor
namespace Rows

/-- THE TIED CARD OF 'makerlaw.Compiles'. -/
def compilesCard : Claim7 := { stood := { row := compilesRow, standIns := [], harness := (true, "6b734bcb95581effa892b98f0c33885c95cc468f179e68097f07d19a4e2b3ed5"), looks := false }, kinds := [], alts := [], laidByText := true, laidKinds := [.data, .pinned], laidTests := true, laidLooks := .later }
def CompilesCardSaid : Prop := Claim7.holds Tryz.pinned (.plain (OpenSpec.ofChange compilesSpec)) compilesCard

/-- THE TIED CARD OF 'makerlaw.Makes'. -/
def makesCard : Claim7 := { stood := { row := makesRow, standIns := [], harness := (true, "6b734bcb95581effa892b98f0c33885c95cc468f179e68097f07d19a4e2b3ed5"), looks := false }, kinds := [], alts := [], laidByText := true, laidKinds := [.data, .pinned], laidTests := true, laidLooks := .later }
def MakesCardSaid : Prop := Claim7.holds Tryz.pinned (.plain (OpenSpec.ofChange makesSpec)) makesCard

/-- THE TIED CARD OF 'makerkeep.Alike'. -/
def alikeCard : Claim7 := { stood := { row := alikeRow, standIns := [], harness := (true, "6b734bcb95581effa892b98f0c33885c95cc468f179e68097f07d19a4e2b3ed5"), looks := false }, kinds := [], alts := [], laidByText := true, laidKinds := [.data, .pinned], laidTests := true, laidLooks := .later }
def AlikeCardSaid : Prop := Claim7.holds Tryz.pinned (.plain (OpenSpec.ofChange alikeSpec)) alikeCard

/-- THE TIED CARD OF 'makerkeep.Parted'. -/
def partedCard : Claim7 := { stood := { row := partedRow, standIns := [], harness := (true, "6b734bcb95581effa892b98f0c33885c95cc468f179e68097f07d19a4e2b3ed5"), looks := false }, kinds := [], alts := [], laidByText := true, laidKinds := [.data, .pinned], laidTests := true, laidLooks := .later }
def PartedCardSaid : Prop := Claim7.holds Tryz.pinned (.plain (OpenSpec.ofChange partedSpec)) partedCard

/-- THE TIED CARD OF 'makerkeep.Harmless'. -/
def harmlessCard : Claim7 := { stood := { row := harmlessRow, standIns := [], harness := (true, "6b734bcb95581effa892b98f0c33885c95cc468f179e68097f07d19a4e2b3ed5"), looks := false }, kinds := [], alts := [], laidByText := true, laidKinds := [.data, .pinned], laidTests := true, laidLooks := .later }
def HarmlessCardSaid : Prop := Claim7.holds Tryz.pinned (.plain (OpenSpec.ofChange harmlessSpec)) harmlessCard

/-- THE TIED CARD OF 'makerkeep.Once'. -/
def onceCard : Claim7 := { stood := { row := onceRow, standIns := [], harness := (true, "6b734bcb95581effa892b98f0c33885c95cc468f179e68097f07d19a4e2b3ed5"), looks := false }, kinds := [], alts := [], laidByText := true, laidKinds := [.data, .pinned], laidTests := true, laidLooks := .later }
def OnceCardSaid : Prop := Claim7.holds Tryz.pinned (.plain (OpenSpec.ofChange onceSpec)) onceCard

/-- THE TIED CARD OF 'makerkeep.Quiet'. -/
def quietCard : Claim7 := { stood := { row := quietRow, standIns := [], harness := (true, "6b734bcb95581effa892b98f0c33885c95cc468f179e68097f07d19a4e2b3ed5"), looks := false }, kinds := [], alts := [], laidByText := true, laidKinds := [.data, .pinned], laidTests := true, laidLooks := .later }
def QuietCardSaid : Prop := Claim7.holds Tryz.pinned (.plain (OpenSpec.ofChange quietSpec)) quietCard

/-- THE TIED CARD OF 'makerkeep.Stopped'. -/
def stoppedCard : Claim7 := { stood := { row := stoppedRow, standIns := [], harness := (true, "6b734bcb95581effa892b98f0c33885c95cc468f179e68097f07d19a4e2b3ed5"), looks := false }, kinds := [], alts := [], laidByText := true, laidKinds := [.data, .pinned], laidTests := true, laidLooks := .later }
def StoppedCardSaid : Prop := Claim7.holds Tryz.pinned (.plain (OpenSpec.ofChange stoppedSpec)) stoppedCard

/-- THE SECOND FORM's CARD OF 'makerlaw.Compiles'. -/
def compilesUptoCard : Claim7 := { stood := { row := compilesUptoRow, standIns := [], harness := (true, "6b734bcb95581effa892b98f0c33885c95cc468f179e68097f07d19a4e2b3ed5"), looks := false }, kinds := [], alts := [], laidByText := true, laidKinds := [.data, .pinned], laidTests := true, laidLooks := .later }
def CompilesUptoCardSaid : Prop := Claim7.holds Tryz.pinned (.plain (OpenSpec.upto compilesSpec)) compilesUptoCard

/-- THE SECOND FORM's CARD OF 'makerlaw.Makes'. -/
def makesUptoCard : Claim7 := { stood := { row := makesUptoRow, standIns := [], harness := (true, "6b734bcb95581effa892b98f0c33885c95cc468f179e68097f07d19a4e2b3ed5"), looks := false }, kinds := [], alts := [], laidByText := true, laidKinds := [.data, .pinned], laidTests := true, laidLooks := .later }
def MakesUptoCardSaid : Prop := Claim7.holds Tryz.pinned (.plain (OpenSpec.upto makesSpec)) makesUptoCard

/-- THE SECOND FORM's CARD OF 'makerkeep.Alike'. -/
def alikeUptoCard : Claim7 := { stood := { row := alikeUptoRow, standIns := [], harness := (true, "6b734bcb95581effa892b98f0c33885c95cc468f179e68097f07d19a4e2b3ed5"), looks := false }, kinds := [], alts := [], laidByText := true, laidKinds := [.data, .pinned], laidTests := true, laidLooks := .later }
def AlikeUptoCardSaid : Prop := Claim7.holds Tryz.pinned (.plain (OpenSpec.upto alikeSpec)) alikeUptoCard

/-- THE SECOND FORM's CARD OF 'makerkeep.Parted'. -/
def partedUptoCard : Claim7 := { stood := { row := partedUptoRow, standIns := [], harness := (true, "6b734bcb95581effa892b98f0c33885c95cc468f179e68097f07d19a4e2b3ed5"), looks := false }, kinds := [], alts := [], laidByText := true, laidKinds := [.data, .pinned], laidTests := true, laidLooks := .later }
def PartedUptoCardSaid : Prop := Claim7.holds Tryz.pinned (.plain (OpenSpec.upto partedSpec)) partedUptoCard

/-- THE SECOND FORM's CARD OF 'makerkeep.Harmless'. -/
def harmlessUptoCard : Claim7 := { stood := { row := harmlessUptoRow, standIns := [], harness := (true, "6b734bcb95581effa892b98f0c33885c95cc468f179e68097f07d19a4e2b3ed5"), looks := false }, kinds := [], alts := [], laidByText := true, laidKinds := [.data, .pinned], laidTests := true, laidLooks := .later }
def HarmlessUptoCardSaid : Prop := Claim7.holds Tryz.pinned (.plain (OpenSpec.upto harmlessSpec)) harmlessUptoCard

/-- THE SECOND FORM's CARD OF 'makerkeep.Once'. -/
def onceUptoCard : Claim7 := { stood := { row := onceUptoRow, standIns := [], harness := (true, "6b734bcb95581effa892b98f0c33885c95cc468f179e68097f07d19a4e2b3ed5"), looks := false }, kinds := [], alts := [], laidByText := true, laidKinds := [.data, .pinned], laidTests := true, laidLooks := .later }
def OnceUptoCardSaid : Prop := Claim7.holds Tryz.pinned (.plain (OpenSpec.upto onceSpec)) onceUptoCard

/-- THE SECOND FORM's CARD OF 'makerkeep.Quiet'. -/
def quietUptoCard : Claim7 := { stood := { row := quietUptoRow, standIns := [], harness := (true, "6b734bcb95581effa892b98f0c33885c95cc468f179e68097f07d19a4e2b3ed5"), looks := false }, kinds := [], alts := [], laidByText := true, laidKinds := [.data, .pinned], laidTests := true, laidLooks := .later }
def QuietUptoCardSaid : Prop := Claim7.holds Tryz.pinned (.plain (OpenSpec.upto quietSpec)) quietUptoCard

/-- THE SECOND FORM's CARD OF 'makerkeep.Stopped'. -/
def stoppedUptoCard : Claim7 := { stood := { row := stoppedUptoRow, standIns := [], harness := (true, "6b734bcb95581effa892b98f0c33885c95cc468f179e68097f07d19a4e2b3ed5"), looks := false }, kinds := [], alts := [], laidByText := true, laidKinds := [.data, .pinned], laidTests := true, laidLooks := .later }
def StoppedUptoCardSaid : Prop := Claim7.holds Tryz.pinned (.plain (OpenSpec.upto stoppedSpec)) stoppedUptoCard
end Rows
end Go.Proofs.YtjelacjggijmfaaGreatDoor
