/-
  DERIVED. GIVEN WITH THE SEED: THE CARDS: each row of YtkboncpfddnoaaaGreatDoorRows.lean that lists a variable, with what it lists TIED to the program's text (the seventh form; the later family's looks); each row that meets fmt, with fmt's text TOLD by the authors' own Lean function (tested against real Go, not proved from fmt's source: count such statements apart). THE CARD IS WHAT COUNTS. Prove the row's statement (the work); the ties are given (YtkboncpfddnoaaaGreatDoorTie.lean); close each card by the builder's one call (the guide's Derived/Test/ToyasCard.lean, 'card_holds'). Laid BY PROGRAM, IN A SANDBOX (cutbox-door.mjs). By AI agents, Wed Nov 11 2026. No macro, syntax, notation, axiom, sorry.
-/
import Derived.Test.YtkboncpfddnoaaaGreatDoorRows
import GoSem.ClaimSeven
namespace Go.Proofs.YtkboncpfddnoaaaGreatDoor
namespace Rows

/-- THE TIED CARD OF 'omnibuslaw09.ScanSteps'. -/
def scanStepsCard : Claim7 := { stood := { row := scanStepsRow, standIns := [], harness := (true, "84471f4569d8ab3f04a1f44da8cdbf6cc76e193b901797221bc93159d595983d"), looks := false }, kinds := [], alts := [], laidByText := true, laidKinds := [.data, .data], laidTests := true, laidLooks := .later }
def ScanStepsCardSaid : Prop := Claim7.holds Tryz.pinned (.plain (OpenSpec.ofChange scanStepsSpec)) scanStepsCard

/-- THE TIED CARD OF 'omnibuslaw09.ScanFrames'. -/
def scanFramesCard : Claim7 := { stood := { row := scanFramesRow, standIns := [], harness := (true, "84471f4569d8ab3f04a1f44da8cdbf6cc76e193b901797221bc93159d595983d"), looks := false }, kinds := [], alts := [], laidByText := true, laidKinds := [.data, .data], laidTests := true, laidLooks := .later }
def ScanFramesCardSaid : Prop := Claim7.holds Tryz.pinned (.plain (OpenSpec.ofChange scanFramesSpec)) scanFramesCard

/-- THE TIED CARD OF 'omnibuslaw09.ScanTurns'. -/
def scanTurnsCard : Claim7 := { stood := { row := scanTurnsRow, standIns := [], harness := (true, "84471f4569d8ab3f04a1f44da8cdbf6cc76e193b901797221bc93159d595983d"), looks := false }, kinds := [], alts := [], laidByText := true, laidKinds := [.data, .data], laidTests := true, laidLooks := .later }
def ScanTurnsCardSaid : Prop := Claim7.holds Tryz.pinned (.plain (OpenSpec.ofChange scanTurnsSpec)) scanTurnsCard

/-- THE TIED CARD OF 'omnibuslaw09.ScanStays'. -/
def scanStaysCard : Claim7 := { stood := { row := scanStaysRow, standIns := [], harness := (true, "84471f4569d8ab3f04a1f44da8cdbf6cc76e193b901797221bc93159d595983d"), looks := false }, kinds := [], alts := [], laidByText := true, laidKinds := [.data, .data], laidTests := true, laidLooks := .later }
def ScanStaysCardSaid : Prop := Claim7.holds Tryz.pinned (.plain (OpenSpec.ofChange scanStaysSpec)) scanStaysCard

/-- THE TIED CARD OF 'omnibuslaw09.ScanAliens'. -/
def scanAliensCard : Claim7 := { stood := { row := scanAliensRow, standIns := [], harness := (true, "84471f4569d8ab3f04a1f44da8cdbf6cc76e193b901797221bc93159d595983d"), looks := false }, kinds := [], alts := [], laidByText := true, laidKinds := [.data, .data], laidTests := true, laidLooks := .later }
def ScanAliensCardSaid : Prop := Claim7.holds Tryz.pinned (.plain (OpenSpec.ofChange scanAliensSpec)) scanAliensCard

/-- THE SECOND FORM's CARD OF 'omnibuslaw09.ScanSteps'. -/
def scanStepsUptoCard : Claim7 := { stood := { row := scanStepsUptoRow, standIns := [], harness := (true, "84471f4569d8ab3f04a1f44da8cdbf6cc76e193b901797221bc93159d595983d"), looks := false }, kinds := [], alts := [], laidByText := true, laidKinds := [.data, .data], laidTests := true, laidLooks := .later }
def ScanStepsUptoCardSaid : Prop := Claim7.holds Tryz.pinned (.plain (OpenSpec.upto scanStepsSpec)) scanStepsUptoCard

/-- THE SECOND FORM's CARD OF 'omnibuslaw09.ScanFrames'. -/
def scanFramesUptoCard : Claim7 := { stood := { row := scanFramesUptoRow, standIns := [], harness := (true, "84471f4569d8ab3f04a1f44da8cdbf6cc76e193b901797221bc93159d595983d"), looks := false }, kinds := [], alts := [], laidByText := true, laidKinds := [.data, .data], laidTests := true, laidLooks := .later }
def ScanFramesUptoCardSaid : Prop := Claim7.holds Tryz.pinned (.plain (OpenSpec.upto scanFramesSpec)) scanFramesUptoCard

/-- THE SECOND FORM's CARD OF 'omnibuslaw09.ScanTurns'. -/
def scanTurnsUptoCard : Claim7 := { stood := { row := scanTurnsUptoRow, standIns := [], harness := (true, "84471f4569d8ab3f04a1f44da8cdbf6cc76e193b901797221bc93159d595983d"), looks := false }, kinds := [], alts := [], laidByText := true, laidKinds := [.data, .data], laidTests := true, laidLooks := .later }
def ScanTurnsUptoCardSaid : Prop := Claim7.holds Tryz.pinned (.plain (OpenSpec.upto scanTurnsSpec)) scanTurnsUptoCard

/-- THE SECOND FORM's CARD OF 'omnibuslaw09.ScanStays'. -/
def scanStaysUptoCard : Claim7 := { stood := { row := scanStaysUptoRow, standIns := [], harness := (true, "84471f4569d8ab3f04a1f44da8cdbf6cc76e193b901797221bc93159d595983d"), looks := false }, kinds := [], alts := [], laidByText := true, laidKinds := [.data, .data], laidTests := true, laidLooks := .later }
def ScanStaysUptoCardSaid : Prop := Claim7.holds Tryz.pinned (.plain (OpenSpec.upto scanStaysSpec)) scanStaysUptoCard

/-- THE SECOND FORM's CARD OF 'omnibuslaw09.ScanAliens'. -/
def scanAliensUptoCard : Claim7 := { stood := { row := scanAliensUptoRow, standIns := [], harness := (true, "84471f4569d8ab3f04a1f44da8cdbf6cc76e193b901797221bc93159d595983d"), looks := false }, kinds := [], alts := [], laidByText := true, laidKinds := [.data, .data], laidTests := true, laidLooks := .later }
def ScanAliensUptoCardSaid : Prop := Claim7.holds Tryz.pinned (.plain (OpenSpec.upto scanAliensSpec)) scanAliensUptoCard
end Rows
end Go.Proofs.YtkboncpfddnoaaaGreatDoor
