/-
  DERIVED. GIVEN WITH THE SEED: THE CARDS: each row of YtdedoeeekcfkpaaDoorRows.lean that lists a variable, with what it lists TIED to the program's text (the seventh form; the later family's looks); each row that meets fmt, with fmt's text TOLD by the authors' own Lean function (tested against real Go, not proved from fmt's source: count such statements apart). THE CARD IS WHAT COUNTS. Prove the row's statement (the work); the ties are given (YtdedoeeekcfkpaaDoorTie.lean); close each card by the builder's one call (the guide's Derived/Test/ToyasCard.lean, 'card_holds'). Laid BY PROGRAM, IN A SANDBOX (cutbox-door.mjs). By AI agents, Wed Nov 11 2026. No macro, syntax, notation, axiom, sorry.
-/
import Derived.Test.YtdedoeeekcfkpaaDoorRows
import GoSem.ClaimSeven
namespace Go.Proofs.YtdedoeeekcfkpaaDoor
namespace Rows

/-- THE TIED CARD OF 'omnibuslaw14.QueueActs'. -/
def queueActsCard : Claim7 := { stood := { row := queueActsRow, standIns := [], harness := (true, "40c8b51bdf14b89d4030e8216ed036ec927edd59ad123c220cf89046e04077a6"), looks := true }, kinds := [], alts := [], laidByText := true, laidKinds := [.data], laidTests := true, laidLooks := .later }
def QueueActsCardSaid : Prop := Claim7.holds Tryd.pinned (.plain (OpenSpec.ofChange queueActsSpec)) queueActsCard

/-- THE TIED CARD OF 'omnibuslaw14.QueueOrders'. -/
def queueOrdersCard : Claim7 := { stood := { row := queueOrdersRow, standIns := [], harness := (true, "40c8b51bdf14b89d4030e8216ed036ec927edd59ad123c220cf89046e04077a6"), looks := true }, kinds := [], alts := [], laidByText := true, laidKinds := [.data], laidTests := true, laidLooks := .later }
def QueueOrdersCardSaid : Prop := Claim7.holds Tryd.pinned (.plain (OpenSpec.ofChange queueOrdersSpec)) queueOrdersCard

/-- THE TIED CARD OF 'omnibuslaw14.QueueCancels'. -/
def queueCancelsCard : Claim7 := { stood := { row := queueCancelsRow, standIns := [], harness := (true, "40c8b51bdf14b89d4030e8216ed036ec927edd59ad123c220cf89046e04077a6"), looks := true }, kinds := [], alts := [], laidByText := true, laidKinds := [.data], laidTests := true, laidLooks := .later }
def QueueCancelsCardSaid : Prop := Claim7.holds Tryd.pinned (.plain (OpenSpec.ofChange queueCancelsSpec)) queueCancelsCard

/-- THE TIED CARD OF 'omnibuslaw14.QueueRoom'. -/
def queueRoomCard : Claim7 := { stood := { row := queueRoomRow, standIns := [], harness := (true, "40c8b51bdf14b89d4030e8216ed036ec927edd59ad123c220cf89046e04077a6"), looks := true }, kinds := [], alts := [], laidByText := true, laidKinds := [.data], laidTests := true, laidLooks := .later }
def QueueRoomCardSaid : Prop := Claim7.holds Tryd.pinned (.plain (OpenSpec.ofChange queueRoomSpec)) queueRoomCard

/-- THE TIED CARD OF 'omnibuslaw14.QueueOwn'. -/
def queueOwnCard : Claim7 := { stood := { row := queueOwnRow, standIns := [], harness := (true, "40c8b51bdf14b89d4030e8216ed036ec927edd59ad123c220cf89046e04077a6"), looks := true }, kinds := [], alts := [], laidByText := true, laidKinds := [.data], laidTests := true, laidLooks := .later }
def QueueOwnCardSaid : Prop := Claim7.holds Tryd.pinned (.plain (OpenSpec.ofChange queueOwnSpec)) queueOwnCard

/-- THE TIED CARD OF 'omnibuslaw14.QueueMixes'. -/
def queueMixesCard : Claim7 := { stood := { row := queueMixesRow, standIns := [], harness := (true, "40c8b51bdf14b89d4030e8216ed036ec927edd59ad123c220cf89046e04077a6"), looks := true }, kinds := [], alts := [], laidByText := true, laidKinds := [.data], laidTests := true, laidLooks := .later }
def QueueMixesCardSaid : Prop := Claim7.holds Tryd.pinned (.plain (OpenSpec.ofChange queueMixesSpec)) queueMixesCard

/-- THE SECOND FORM's CARD OF 'omnibuslaw14.QueueActs'. -/
def queueActsUptoCard : Claim7 := { stood := { row := queueActsUptoRow, standIns := [], harness := (true, "40c8b51bdf14b89d4030e8216ed036ec927edd59ad123c220cf89046e04077a6"), looks := true }, kinds := [], alts := [], laidByText := true, laidKinds := [.data], laidTests := true, laidLooks := .later }
def QueueActsUptoCardSaid : Prop := Claim7.holds Tryd.pinned (.plain (OpenSpec.upto queueActsSpec)) queueActsUptoCard

/-- THE SECOND FORM's CARD OF 'omnibuslaw14.QueueOrders'. -/
def queueOrdersUptoCard : Claim7 := { stood := { row := queueOrdersUptoRow, standIns := [], harness := (true, "40c8b51bdf14b89d4030e8216ed036ec927edd59ad123c220cf89046e04077a6"), looks := true }, kinds := [], alts := [], laidByText := true, laidKinds := [.data], laidTests := true, laidLooks := .later }
def QueueOrdersUptoCardSaid : Prop := Claim7.holds Tryd.pinned (.plain (OpenSpec.upto queueOrdersSpec)) queueOrdersUptoCard

/-- THE SECOND FORM's CARD OF 'omnibuslaw14.QueueCancels'. -/
def queueCancelsUptoCard : Claim7 := { stood := { row := queueCancelsUptoRow, standIns := [], harness := (true, "40c8b51bdf14b89d4030e8216ed036ec927edd59ad123c220cf89046e04077a6"), looks := true }, kinds := [], alts := [], laidByText := true, laidKinds := [.data], laidTests := true, laidLooks := .later }
def QueueCancelsUptoCardSaid : Prop := Claim7.holds Tryd.pinned (.plain (OpenSpec.upto queueCancelsSpec)) queueCancelsUptoCard

/-- THE SECOND FORM's CARD OF 'omnibuslaw14.QueueRoom'. -/
def queueRoomUptoCard : Claim7 := { stood := { row := queueRoomUptoRow, standIns := [], harness := (true, "40c8b51bdf14b89d4030e8216ed036ec927edd59ad123c220cf89046e04077a6"), looks := true }, kinds := [], alts := [], laidByText := true, laidKinds := [.data], laidTests := true, laidLooks := .later }
def QueueRoomUptoCardSaid : Prop := Claim7.holds Tryd.pinned (.plain (OpenSpec.upto queueRoomSpec)) queueRoomUptoCard

/-- THE SECOND FORM's CARD OF 'omnibuslaw14.QueueOwn'. -/
def queueOwnUptoCard : Claim7 := { stood := { row := queueOwnUptoRow, standIns := [], harness := (true, "40c8b51bdf14b89d4030e8216ed036ec927edd59ad123c220cf89046e04077a6"), looks := true }, kinds := [], alts := [], laidByText := true, laidKinds := [.data], laidTests := true, laidLooks := .later }
def QueueOwnUptoCardSaid : Prop := Claim7.holds Tryd.pinned (.plain (OpenSpec.upto queueOwnSpec)) queueOwnUptoCard

/-- THE SECOND FORM's CARD OF 'omnibuslaw14.QueueMixes'. -/
def queueMixesUptoCard : Claim7 := { stood := { row := queueMixesUptoRow, standIns := [], harness := (true, "40c8b51bdf14b89d4030e8216ed036ec927edd59ad123c220cf89046e04077a6"), looks := true }, kinds := [], alts := [], laidByText := true, laidKinds := [.data], laidTests := true, laidLooks := .later }
def QueueMixesUptoCardSaid : Prop := Claim7.holds Tryd.pinned (.plain (OpenSpec.upto queueMixesSpec)) queueMixesUptoCard
end Rows
end Go.Proofs.YtdedoeeekcfkpaaDoor
