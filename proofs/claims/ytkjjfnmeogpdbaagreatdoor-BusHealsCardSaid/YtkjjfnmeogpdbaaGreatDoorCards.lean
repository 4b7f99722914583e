/-
  DERIVED. GIVEN WITH THE SEED: THE CARDS: each row of YtkjjfnmeogpdbaaGreatDoorRows.lean that lists a variable, with what it lists TIED to the program's text (the seventh form; the later family's looks); each row that meets fmt, with fmt's text TOLD by the authors' own Lean function (tested against real Go, not proved from fmt's source: count such statements apart). THE CARD IS WHAT COUNTS. Prove the row's statement (the work); the ties are given (YtkjjfnmeogpdbaaGreatDoorTie.lean); close each card by the builder's one call (the guide's Derived/Test/ToyasCard.lean, 'card_holds'). Laid BY PROGRAM, IN A SANDBOX (cutbox-door.mjs). By AI agents, Wed Nov 11 2026. No macro, syntax, notation, axiom, sorry.
-/
import Derived.Test.YtkjjfnmeogpdbaaGreatDoorRows
import GoSem.ClaimSeven
namespace Go.Proofs.YtkjjfnmeogpdbaaGreatDoor
namespace Rows

/-- THE TIED CARD OF 'omnibuslaw13.BusActs'. -/
def busActsCard : Claim7 := { stood := { row := busActsRow, standIns := [], harness := (true, "64afe78905b3bfaa71e3cb33e68297a2a5094a59a9c19985e413353fe3956402"), looks := true }, kinds := [], alts := [], laidByText := true, laidKinds := [.data, .data], laidTests := true, laidLooks := .later }
def BusActsCardSaid : Prop := Claim7.holds Tryz.pinned (.plain (OpenSpec.ofChange busActsSpec)) busActsCard

/-- THE TIED CARD OF 'omnibuslaw13.BusCalm'. -/
def busCalmCard : Claim7 := { stood := { row := busCalmRow, standIns := [], harness := (true, "64afe78905b3bfaa71e3cb33e68297a2a5094a59a9c19985e413353fe3956402"), looks := true }, kinds := [], alts := [], laidByText := true, laidKinds := [.data, .data], laidTests := true, laidLooks := .later }
def BusCalmCardSaid : Prop := Claim7.holds Tryz.pinned (.plain (OpenSpec.ofChange busCalmSpec)) busCalmCard

/-- THE TIED CARD OF 'omnibuslaw13.BusTight'. -/
def busTightCard : Claim7 := { stood := { row := busTightRow, standIns := [], harness := (true, "64afe78905b3bfaa71e3cb33e68297a2a5094a59a9c19985e413353fe3956402"), looks := true }, kinds := [], alts := [], laidByText := true, laidKinds := [.data, .data], laidTests := true, laidLooks := .later }
def BusTightCardSaid : Prop := Claim7.holds Tryz.pinned (.plain (OpenSpec.ofChange busTightSpec)) busTightCard

/-- THE TIED CARD OF 'omnibuslaw13.BusMay'. -/
def busMayCard : Claim7 := { stood := { row := busMayRow, standIns := [], harness := (true, "64afe78905b3bfaa71e3cb33e68297a2a5094a59a9c19985e413353fe3956402"), looks := true }, kinds := [], alts := [], laidByText := true, laidKinds := [.data, .data], laidTests := true, laidLooks := .later }
def BusMayCardSaid : Prop := Claim7.holds Tryz.pinned (.plain (OpenSpec.ofChange busMaySpec)) busMayCard

/-- THE TIED CARD OF 'omnibuslaw13.BusHeals'. -/
def busHealsCard : Claim7 := { stood := { row := busHealsRow, standIns := [], harness := (true, "64afe78905b3bfaa71e3cb33e68297a2a5094a59a9c19985e413353fe3956402"), looks := true }, kinds := [], alts := [], laidByText := true, laidKinds := [.data, .data], laidTests := true, laidLooks := .later }
def BusHealsCardSaid : Prop := Claim7.holds Tryz.pinned (.plain (OpenSpec.ofChange busHealsSpec)) busHealsCard

/-- THE TIED CARD OF 'omnibuslaw13.BusLoads'. -/
def busLoadsCard : Claim7 := { stood := { row := busLoadsRow, standIns := [], harness := (true, "64afe78905b3bfaa71e3cb33e68297a2a5094a59a9c19985e413353fe3956402"), looks := true }, kinds := [], alts := [], laidByText := true, laidKinds := [.data, .data], laidTests := true, laidLooks := .later }
def BusLoadsCardSaid : Prop := Claim7.holds Tryz.pinned (.plain (OpenSpec.ofChange busLoadsSpec)) busLoadsCard

/-- THE SECOND FORM's CARD OF 'omnibuslaw13.BusActs'. -/
def busActsUptoCard : Claim7 := { stood := { row := busActsUptoRow, standIns := [], harness := (true, "64afe78905b3bfaa71e3cb33e68297a2a5094a59a9c19985e413353fe3956402"), looks := true }, kinds := [], alts := [], laidByText := true, laidKinds := [.data, .data], laidTests := true, laidLooks := .later }
def BusActsUptoCardSaid : Prop := Claim7.holds Tryz.pinned (.plain (OpenSpec.upto busActsSpec)) busActsUptoCard

/-- THE SECOND FORM's CARD OF 'omnibuslaw13.BusCalm'. -/
def busCalmUptoCard : Claim7 := { stood := { row := busCalmUptoRow, standIns := [], harness := (true, "64afe78905b3bfaa71e3cb33e68297a2a5094a59a9c19985e413353fe3956402"), looks := true }, kinds := [], alts := [], laidByText := true, laidKinds := [.data, .data], laidTests := true, laidLooks := .later }
def BusCalmUptoCardSaid : Prop := Claim7.holds Tryz.pinned (.plain (OpenSpec.upto busCalmSpec)) busCalmUptoCard

/-- THE SECOND FORM's CARD OF 'omnibuslaw13.BusTight'. -/
def busTightUptoCard : Claim7 := { stood := { row := busTightUptoRow, standIns := [], harness := (true, "64afe78905b3bfaa71e3cb33e68297a2a5094a59a9c19985e413353fe3956402"), looks := true }, kinds := [], alts := [], laidByText := true, laidKinds := [.data, .data], laidTests := true, laidLooks := .later }
def BusTightUptoCardSaid : Prop := Claim7.holds Tryz.pinned (.plain (OpenSpec.upto busTightSpec)) busTightUptoCard

/-- THE SECOND FORM's CARD OF 'omnibuslaw13.BusMay'. -/
def busMayUptoCard : Claim7 := { stood := { row := busMayUptoRow, standIns := [], harness := (true, "64afe78905b3bfaa71e3cb33e68297a2a5094a59a9c19985e413353fe3956402"), looks := true }, kinds := [], alts := [], laidByText := true, laidKinds := [.data, .data], laidTests := true, laidLooks := .later }
def BusMayUptoCardSaid : Prop := Claim7.holds Tryz.pinned (.plain (OpenSpec.upto busMaySpec)) busMayUptoCard

/-- THE SECOND FORM's CARD OF 'omnibuslaw13.BusHeals'. -/
def busHealsUptoCard : Claim7 := { stood := { row := busHealsUptoRow, standIns := [], harness := (true, "64afe78905b3bfaa71e3cb33e68297a2a5094a59a9c19985e413353fe3956402"), looks := true }, kinds := [], alts := [], laidByText := true, laidKinds := [.data, .data], laidTests := true, laidLooks := .later }
def BusHealsUptoCardSaid : Prop := Claim7.holds Tryz.pinned (.plain (OpenSpec.upto busHealsSpec)) busHealsUptoCard

/-- THE SECOND FORM's CARD OF 'omnibuslaw13.BusLoads'. -/
def busLoadsUptoCard : Claim7 := { stood := { row := busLoadsUptoRow, standIns := [], harness := (true, "64afe78905b3bfaa71e3cb33e68297a2a5094a59a9c19985e413353fe3956402"), looks := true }, kinds := [], alts := [], laidByText := true, laidKinds := [.data, .data], laidTests := true, laidLooks := .later }
def BusLoadsUptoCardSaid : Prop := Claim7.holds Tryz.pinned (.plain (OpenSpec.upto busLoadsSpec)) busLoadsUptoCard
end Rows
end Go.Proofs.YtkjjfnmeogpdbaaGreatDoor
