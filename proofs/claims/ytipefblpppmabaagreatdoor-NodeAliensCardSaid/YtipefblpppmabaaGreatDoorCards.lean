/-
  DERIVED. GIVEN WITH THE SEED: THE CARDS: each row of YtipefblpppmabaaGreatDoorRows.lean that lists a variable, with what it lists TIED to the program's text (the seventh form; the later family's looks); each row that meets fmt, with fmt's text TOLD by the authors' own Lean function (tested against real Go, not proved from fmt's source: count such statements apart). THE CARD IS WHAT COUNTS. Prove the row's statement (the work); the ties are given (YtipefblpppmabaaGreatDoorTie.lean); close each card by the builder's one call (the guide's Derived/Test/ToyasCard.lean, 'card_holds'). Laid BY PROGRAM, IN A SANDBOX (cutbox-door.mjs). By AI agents, Wed Nov 11 2026. No macro, syntax, notation, axiom, sorry.
-/
import Derived.Test.YtipefblpppmabaaGreatDoorRows
import GoSem.ClaimSeven
namespace Go.Proofs.YtipefblpppmabaaGreatDoor
namespace Rows

/-- THE TIED CARD OF 'omnibuslaw12.NodeActs'. -/
def nodeActsCard : Claim7 := { stood := { row := nodeActsRow, standIns := [], harness := (true, "3871b796756b3fa5ca41c331cd06b23bf670ec030f3668386ce268c116d05b90"), looks := false }, kinds := [], alts := [], laidByText := true, laidKinds := [.data, .data], laidTests := true, laidLooks := .later }
def NodeActsCardSaid : Prop := Claim7.holds Tryz.pinned (.plain (OpenSpec.ofChange nodeActsSpec)) nodeActsCard

/-- THE TIED CARD OF 'omnibuslaw12.NodePair'. -/
def nodePairCard : Claim7 := { stood := { row := nodePairRow, standIns := [], harness := (true, "3871b796756b3fa5ca41c331cd06b23bf670ec030f3668386ce268c116d05b90"), looks := false }, kinds := [], alts := [], laidByText := true, laidKinds := [.data, .data], laidTests := true, laidLooks := .later }
def NodePairCardSaid : Prop := Claim7.holds Tryz.pinned (.plain (OpenSpec.ofChange nodePairSpec)) nodePairCard

/-- THE TIED CARD OF 'omnibuslaw12.NodeAlone'. -/
def nodeAloneCard : Claim7 := { stood := { row := nodeAloneRow, standIns := [], harness := (true, "3871b796756b3fa5ca41c331cd06b23bf670ec030f3668386ce268c116d05b90"), looks := false }, kinds := [], alts := [], laidByText := true, laidKinds := [.data, .data], laidTests := true, laidLooks := .later }
def NodeAloneCardSaid : Prop := Claim7.holds Tryz.pinned (.plain (OpenSpec.ofChange nodeAloneSpec)) nodeAloneCard

/-- THE TIED CARD OF 'omnibuslaw12.NodeQuiet'. -/
def nodeQuietCard : Claim7 := { stood := { row := nodeQuietRow, standIns := [], harness := (true, "3871b796756b3fa5ca41c331cd06b23bf670ec030f3668386ce268c116d05b90"), looks := false }, kinds := [], alts := [], laidByText := true, laidKinds := [.data, .data], laidTests := true, laidLooks := .later }
def NodeQuietCardSaid : Prop := Claim7.holds Tryz.pinned (.plain (OpenSpec.ofChange nodeQuietSpec)) nodeQuietCard

/-- THE TIED CARD OF 'omnibuslaw12.NodeMay'. -/
def nodeMayCard : Claim7 := { stood := { row := nodeMayRow, standIns := [], harness := (true, "3871b796756b3fa5ca41c331cd06b23bf670ec030f3668386ce268c116d05b90"), looks := false }, kinds := [], alts := [], laidByText := true, laidKinds := [.data, .data], laidTests := true, laidLooks := .later }
def NodeMayCardSaid : Prop := Claim7.holds Tryz.pinned (.plain (OpenSpec.ofChange nodeMaySpec)) nodeMayCard

/-- THE TIED CARD OF 'omnibuslaw12.NodeAliens'. -/
def nodeAliensCard : Claim7 := { stood := { row := nodeAliensRow, standIns := [], harness := (true, "3871b796756b3fa5ca41c331cd06b23bf670ec030f3668386ce268c116d05b90"), looks := false }, kinds := [], alts := [], laidByText := true, laidKinds := [.data, .data], laidTests := true, laidLooks := .later }
def NodeAliensCardSaid : Prop := Claim7.holds Tryz.pinned (.plain (OpenSpec.ofChange nodeAliensSpec)) nodeAliensCard

/-- THE SECOND FORM's CARD OF 'omnibuslaw12.NodeActs'. -/
def nodeActsUptoCard : Claim7 := { stood := { row := nodeActsUptoRow, standIns := [], harness := (true, "3871b796756b3fa5ca41c331cd06b23bf670ec030f3668386ce268c116d05b90"), looks := false }, kinds := [], alts := [], laidByText := true, laidKinds := [.data, .data], laidTests := true, laidLooks := .later }
def NodeActsUptoCardSaid : Prop := Claim7.holds Tryz.pinned (.plain (OpenSpec.upto nodeActsSpec)) nodeActsUptoCard

/-- THE SECOND FORM's CARD OF 'omnibuslaw12.NodePair'. -/
def nodePairUptoCard : Claim7 := { stood := { row := nodePairUptoRow, standIns := [], harness := (true, "3871b796756b3fa5ca41c331cd06b23bf670ec030f3668386ce268c116d05b90"), looks := false }, kinds := [], alts := [], laidByText := true, laidKinds := [.data, .data], laidTests := true, laidLooks := .later }
def NodePairUptoCardSaid : Prop := Claim7.holds Tryz.pinned (.plain (OpenSpec.upto nodePairSpec)) nodePairUptoCard

/-- THE SECOND FORM's CARD OF 'omnibuslaw12.NodeAlone'. -/
def nodeAloneUptoCard : Claim7 := { stood := { row := nodeAloneUptoRow, standIns := [], harness := (true, "3871b796756b3fa5ca41c331cd06b23bf670ec030f3668386ce268c116d05b90"), looks := false }, kinds := [], alts := [], laidByText := true, laidKinds := [.data, .data], laidTests := true, laidLooks := .later }
def NodeAloneUptoCardSaid : Prop := Claim7.holds Tryz.pinned (.plain (OpenSpec.upto nodeAloneSpec)) nodeAloneUptoCard

/-- THE SECOND FORM's CARD OF 'omnibuslaw12.NodeQuiet'. -/
def nodeQuietUptoCard : Claim7 := { stood := { row := nodeQuietUptoRow, standIns := [], harness := (true, "3871b796756b3fa5ca41c331cd06b23bf670ec030f3668386ce268c116d05b90"), looks := false }, kinds := [], alts := [], laidByText := true, laidKinds := [.data, .data], laidTests := true, laidLooks := .later }
def NodeQuietUptoCardSaid : Prop := Claim7.holds Tryz.pinned (.plain (OpenSpec.upto nodeQuietSpec)) nodeQuietUptoCard

/-- THE SECOND FORM's CARD OF 'omnibuslaw12.NodeMay'. -/
def nodeMayUptoCard : Claim7 := { stood := { row := nodeMayUptoRow, standIns := [], harness := (true, "3871b796756b3fa5ca41c331cd06b23bf670ec030f3668386ce268c116d05b90"), looks := false }, kinds := [], alts := [], laidByText := true, laidKinds := [.data, .data], laidTests := true, laidLooks := .later }
def NodeMayUptoCardSaid : Prop := Claim7.holds Tryz.pinned (.plain (OpenSpec.upto nodeMaySpec)) nodeMayUptoCard

/-- THE SECOND FORM's CARD OF 'omnibuslaw12.NodeAliens'. -/
def nodeAliensUptoCard : Claim7 := { stood := { row := nodeAliensUptoRow, standIns := [], harness := (true, "3871b796756b3fa5ca41c331cd06b23bf670ec030f3668386ce268c116d05b90"), looks := false }, kinds := [], alts := [], laidByText := true, laidKinds := [.data, .data], laidTests := true, laidLooks := .later }
def NodeAliensUptoCardSaid : Prop := Claim7.holds Tryz.pinned (.plain (OpenSpec.upto nodeAliensSpec)) nodeAliensUptoCard
end Rows
end Go.Proofs.YtipefblpppmabaaGreatDoor
