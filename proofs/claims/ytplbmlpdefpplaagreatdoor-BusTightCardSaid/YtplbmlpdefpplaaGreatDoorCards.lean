/-
  DERIVED. GIVEN WITH THE SEED: THE CARDS: each row of YtplbmlpdefpplaaGreatDoorRows.lean that lists a variable, with what it lists TIED to the program's text (the seventh form; the later family's looks); each row that meets fmt, with fmt's text TOLD by the authors' own Lean function (tested against real Go, not proved from fmt's source: count such statements apart). THE CARD IS WHAT COUNTS. Prove the row's statement (the work); the ties are given (YtplbmlpdefpplaaGreatDoorTie.lean); close each card by the builder's one call (the guide's Derived/Test/ToyasCard.lean, 'card_holds'). Laid BY PROGRAM, IN A SANDBOX (cutbox-door.mjs). By AI agents, Wed Nov 11 2026. No macro, syntax, notation, axiom, sorry.
-/
import Derived.Test.YtplbmlpdefpplaaGreatDoorRows
import GoSem.ClaimSeven
namespace Go.Proofs.YtplbmlpdefpplaaGreatDoor
namespace Rows

/-- THE TIED CARD OF 'omnibuslaw13.BusCalm'. -/
def busCalmCard : Claim7 := { stood := { row := busCalmRow, standIns := [], harness := (true, "2b6795f6acfc2dacf954fa5c7bfbb4760e4e4773719dc1a9d374a88861eaf45a"), looks := true }, kinds := [], alts := [], laidByText := true, laidKinds := [.data, .data], laidTests := true, laidLooks := .later }
def BusCalmCardSaid : Prop := Claim7.holds Tryz.pinned (.plain (OpenSpec.ofChange busCalmSpec)) busCalmCard

/-- THE TIED CARD OF 'omnibuslaw13.BusTight'. -/
def busTightCard : Claim7 := { stood := { row := busTightRow, standIns := [], harness := (true, "2b6795f6acfc2dacf954fa5c7bfbb4760e4e4773719dc1a9d374a88861eaf45a"), looks := true }, kinds := [], alts := [], laidByText := true, laidKinds := [.data, .data], laidTests := true, laidLooks := .later }
def BusTightCardSaid : Prop := Claim7.holds Tryz.pinned (.plain (OpenSpec.ofChange busTightSpec)) busTightCard

/-- THE SECOND FORM's CARD OF 'omnibuslaw13.BusCalm'. -/
def busCalmUptoCard : Claim7 := { stood := { row := busCalmUptoRow, standIns := [], harness := (true, "2b6795f6acfc2dacf954fa5c7bfbb4760e4e4773719dc1a9d374a88861eaf45a"), looks := true }, kinds := [], alts := [], laidByText := true, laidKinds := [.data, .data], laidTests := true, laidLooks := .later }
def BusCalmUptoCardSaid : Prop := Claim7.holds Tryz.pinned (.plain (OpenSpec.upto busCalmSpec)) busCalmUptoCard

/-- THE SECOND FORM's CARD OF 'omnibuslaw13.BusTight'. -/
def busTightUptoCard : Claim7 := { stood := { row := busTightUptoRow, standIns := [], harness := (true, "2b6795f6acfc2dacf954fa5c7bfbb4760e4e4773719dc1a9d374a88861eaf45a"), looks := true }, kinds := [], alts := [], laidByText := true, laidKinds := [.data, .data], laidTests := true, laidLooks := .later }
def BusTightUptoCardSaid : Prop := Claim7.holds Tryz.pinned (.plain (OpenSpec.upto busTightSpec)) busTightUptoCard
end Rows
end Go.Proofs.YtplbmlpdefpplaaGreatDoor
