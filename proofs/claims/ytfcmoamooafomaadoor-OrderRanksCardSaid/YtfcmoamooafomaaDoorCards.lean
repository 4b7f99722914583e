/-
  DERIVED. GIVEN WITH THE SEED: THE CARDS: each row of YtfcmoamooafomaaDoorRows.lean that lists a variable, with what it lists TIED to the program's text (the seventh form; the later family's looks); each row that meets fmt, with fmt's text TOLD by the authors' own Lean function (tested against real Go, not proved from fmt's source: count such statements apart). THE CARD IS WHAT COUNTS. Prove the row's statement (the work); the ties are given (YtfcmoamooafomaaDoorTie.lean); close each card by the builder's one call (the guide's Derived/Test/ToyasCard.lean, 'card_holds'). Laid BY PROGRAM, IN A SANDBOX (cutbox-door.mjs). By AI agents, Wed Nov 11 2026. No macro, syntax, notation, axiom, sorry.
-/
import Derived.Test.YtfcmoamooafomaaDoorRows
import GoSem.ClaimSeven
namespace Go.Proofs.YtfcmoamooafomaaDoor
namespace Rows

/-- THE TIED CARD OF 'omnibuslaw10.OrderKeys'. -/
def orderKeysCard : Claim7 := { stood := { row := orderKeysRow, standIns := [], harness := (true, "eceae4882c06dca2ccf902ed90e61b97a734504c93405b0cfbe0c3564df17ee2"), looks := true }, kinds := [], alts := [], laidByText := true, laidKinds := [.data], laidTests := true, laidLooks := .later }
def OrderKeysCardSaid : Prop := Claim7.holds Tryd.pinned (.plain (OpenSpec.ofChange orderKeysSpec)) orderKeysCard

/-- THE TIED CARD OF 'omnibuslaw10.OrderRanks'. -/
def orderRanksCard : Claim7 := { stood := { row := orderRanksRow, standIns := [], harness := (true, "eceae4882c06dca2ccf902ed90e61b97a734504c93405b0cfbe0c3564df17ee2"), looks := true }, kinds := [], alts := [], laidByText := true, laidKinds := [.data], laidTests := true, laidLooks := .later }
def OrderRanksCardSaid : Prop := Claim7.holds Tryd.pinned (.plain (OpenSpec.ofChange orderRanksSpec)) orderRanksCard

/-- THE TIED CARD OF 'omnibuslaw10.OrderWire'. -/
def orderWireCard : Claim7 := { stood := { row := orderWireRow, standIns := [], harness := (true, "eceae4882c06dca2ccf902ed90e61b97a734504c93405b0cfbe0c3564df17ee2"), looks := true }, kinds := [], alts := [], laidByText := true, laidKinds := [.data, .data], laidTests := true, laidLooks := .later }
def OrderWireCardSaid : Prop := Claim7.holds Tryd.pinned (.plain (OpenSpec.ofChange orderWireSpec)) orderWireCard

/-- THE TIED CARD OF 'omnibuslaw10.OrderTurns'. -/
def orderTurnsCard : Claim7 := { stood := { row := orderTurnsRow, standIns := [], harness := (true, "eceae4882c06dca2ccf902ed90e61b97a734504c93405b0cfbe0c3564df17ee2"), looks := true }, kinds := [], alts := [], laidByText := true, laidKinds := [.data], laidTests := true, laidLooks := .later }
def OrderTurnsCardSaid : Prop := Claim7.holds Tryd.pinned (.plain (OpenSpec.ofChange orderTurnsSpec)) orderTurnsCard

/-- THE TIED CARD OF 'omnibuslaw10.OrderPlaces'. -/
def orderPlacesCard : Claim7 := { stood := { row := orderPlacesRow, standIns := [], harness := (true, "eceae4882c06dca2ccf902ed90e61b97a734504c93405b0cfbe0c3564df17ee2"), looks := true }, kinds := [], alts := [], laidByText := true, laidKinds := [.data], laidTests := true, laidLooks := .later }
def OrderPlacesCardSaid : Prop := Claim7.holds Tryd.pinned (.plain (OpenSpec.ofChange orderPlacesSpec)) orderPlacesCard

/-- THE TIED CARD OF 'omnibuslaw10.OrderData'. -/
def orderDataCard : Claim7 := { stood := { row := orderDataRow, standIns := [], harness := (true, "eceae4882c06dca2ccf902ed90e61b97a734504c93405b0cfbe0c3564df17ee2"), looks := true }, kinds := [], alts := [], laidByText := true, laidKinds := [.data], laidTests := true, laidLooks := .later }
def OrderDataCardSaid : Prop := Claim7.holds Tryd.pinned (.plain (OpenSpec.ofChange orderDataSpec)) orderDataCard

/-- THE SECOND FORM's CARD OF 'omnibuslaw10.OrderKeys'. -/
def orderKeysUptoCard : Claim7 := { stood := { row := orderKeysUptoRow, standIns := [], harness := (true, "eceae4882c06dca2ccf902ed90e61b97a734504c93405b0cfbe0c3564df17ee2"), looks := true }, kinds := [], alts := [], laidByText := true, laidKinds := [.data], laidTests := true, laidLooks := .later }
def OrderKeysUptoCardSaid : Prop := Claim7.holds Tryd.pinned (.plain (OpenSpec.upto orderKeysSpec)) orderKeysUptoCard

/-- THE SECOND FORM's CARD OF 'omnibuslaw10.OrderRanks'. -/
def orderRanksUptoCard : Claim7 := { stood := { row := orderRanksUptoRow, standIns := [], harness := (true, "eceae4882c06dca2ccf902ed90e61b97a734504c93405b0cfbe0c3564df17ee2"), looks := true }, kinds := [], alts := [], laidByText := true, laidKinds := [.data], laidTests := true, laidLooks := .later }
def OrderRanksUptoCardSaid : Prop := Claim7.holds Tryd.pinned (.plain (OpenSpec.upto orderRanksSpec)) orderRanksUptoCard

/-- THE SECOND FORM's CARD OF 'omnibuslaw10.OrderWire'. -/
def orderWireUptoCard : Claim7 := { stood := { row := orderWireUptoRow, standIns := [], harness := (true, "eceae4882c06dca2ccf902ed90e61b97a734504c93405b0cfbe0c3564df17ee2"), looks := true }, kinds := [], alts := [], laidByText := true, laidKinds := [.data, .data], laidTests := true, laidLooks := .later }
def OrderWireUptoCardSaid : Prop := Claim7.holds Tryd.pinned (.plain (OpenSpec.upto orderWireSpec)) orderWireUptoCard

/-- THE SECOND FORM's CARD OF 'omnibuslaw10.OrderTurns'. -/
def orderTurnsUptoCard : Claim7 := { stood := { row := orderTurnsUptoRow, standIns := [], harness := (true, "eceae4882c06dca2ccf902ed90e61b97a734504c93405b0cfbe0c3564df17ee2"), looks := true }, kinds := [], alts := [], laidByText := true, laidKinds := [.data], laidTests := true, laidLooks := .later }
def OrderTurnsUptoCardSaid : Prop := Claim7.holds Tryd.pinned (.plain (OpenSpec.upto orderTurnsSpec)) orderTurnsUptoCard

/-- THE SECOND FORM's CARD OF 'omnibuslaw10.OrderPlaces'. -/
def orderPlacesUptoCard : Claim7 := { stood := { row := orderPlacesUptoRow, standIns := [], harness := (true, "eceae4882c06dca2ccf902ed90e61b97a734504c93405b0cfbe0c3564df17ee2"), looks := true }, kinds := [], alts := [], laidByText := true, laidKinds := [.data], laidTests := true, laidLooks := .later }
def OrderPlacesUptoCardSaid : Prop := Claim7.holds Tryd.pinned (.plain (OpenSpec.upto orderPlacesSpec)) orderPlacesUptoCard

/-- THE SECOND FORM's CARD OF 'omnibuslaw10.OrderData'. -/
def orderDataUptoCard : Claim7 := { stood := { row := orderDataUptoRow, standIns := [], harness := (true, "eceae4882c06dca2ccf902ed90e61b97a734504c93405b0cfbe0c3564df17ee2"), looks := true }, kinds := [], alts := [], laidByText := true, laidKinds := [.data], laidTests := true, laidLooks := .later }
def OrderDataUptoCardSaid : Prop := Claim7.holds Tryd.pinned (.plain (OpenSpec.upto orderDataSpec)) orderDataUptoCard
end Rows
end Go.Proofs.YtfcmoamooafomaaDoor
