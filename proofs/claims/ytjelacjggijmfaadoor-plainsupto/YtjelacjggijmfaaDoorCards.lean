/-
  DERIVED. GIVEN WITH THE SEED: THE CARDS: each row of YtjelacjggijmfaaDoorRows.lean that lists a variable, with what it lists TIED to the program's text (the seventh form; the later family's looks); each row that meets fmt, with fmt's text TOLD by the authors' own Lean function (tested against real Go, not proved from fmt's source: count such statements apart). THE CARD IS WHAT COUNTS. Prove the row's statement (the work); the ties are given (YtjelacjggijmfaaDoorTie.lean); close each card by the builder's one call (the guide's Derived/Test/ToyasCard.lean, 'card_holds'). Laid BY PROGRAM, IN A SANDBOX (cutbox-door.mjs). By AI agents, Wed Nov 11 2026. No macro, syntax, notation, axiom, sorry.
-/
import Derived.Test.YtjelacjggijmfaaDoorRows
import GoSem.ClaimSeven
namespace Go.Proofs.YtjelacjggijmfaaDoor
namespace Rows

/-- THE TIED CARD OF 'makerlaw.Plains'. -/
def plainsCard : Claim7 := { stood := { row := plainsRow, standIns := [], harness := (true, "45661385bf20137fbd0fbd34df5947948e549e09f82a9430195da5cb3a798321"), looks := false }, kinds := [], alts := [], laidByText := true, laidKinds := [.data, .pinned], laidTests := true, laidLooks := .later }
def PlainsCardSaid : Prop := Claim7.holds Tryd.pinned (.plain (OpenSpec.ofChange plainsSpec)) plainsCard

/-- THE TIED CARD OF 'makerkeep.Again'. -/
def againCard : Claim7 := { stood := { row := againRow, standIns := [], harness := (true, "45661385bf20137fbd0fbd34df5947948e549e09f82a9430195da5cb3a798321"), looks := false }, kinds := [], alts := [], laidByText := true, laidKinds := [.data, .pinned], laidTests := true, laidLooks := .later }
def AgainCardSaid : Prop := Claim7.holds Tryd.pinned (.plain (OpenSpec.ofChange againSpec)) againCard

/-- THE SECOND FORM's CARD OF 'makerlaw.Plains'. -/
def plainsUptoCard : Claim7 := { stood := { row := plainsUptoRow, standIns := [], harness := (true, "45661385bf20137fbd0fbd34df5947948e549e09f82a9430195da5cb3a798321"), looks := false }, kinds := [], alts := [], laidByText := true, laidKinds := [.data, .pinned], laidTests := true, laidLooks := .later }
def PlainsUptoCardSaid : Prop := Claim7.holds Tryd.pinned (.plain (OpenSpec.upto plainsSpec)) plainsUptoCard

/-- THE SECOND FORM's CARD OF 'makerkeep.Again'. -/
def againUptoCard : Claim7 := { stood := { row := againUptoRow, standIns := [], harness := (true, "45661385bf20137fbd0fbd34df5947948e549e09f82a9430195da5cb3a798321"), looks := false }, kinds := [], alts := [], laidByText := true, laidKinds := [.data, .pinned], laidTests := true, laidLooks := .later }
def AgainUptoCardSaid : Prop := Claim7.holds Tryd.pinned (.plain (OpenSpec.upto againSpec)) againUptoCard
end Rows
end Go.Proofs.YtjelacjggijmfaaDoor
