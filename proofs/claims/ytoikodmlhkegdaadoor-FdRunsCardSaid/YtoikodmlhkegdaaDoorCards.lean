/-
  DERIVED. GIVEN WITH THE SEED: THE CARDS: each row of YtoikodmlhkegdaaDoorRows.lean that lists a variable, with what it lists TIED to the program's text (the seventh form; the later family's looks); each row that meets fmt, with fmt's text TOLD by the authors' own Lean function (tested against real Go, not proved from fmt's source: count such statements apart). THE CARD IS WHAT COUNTS. Prove the row's statement (the work); the ties are given (YtoikodmlhkegdaaDoorTie.lean); close each card by the builder's one call (the guide's Derived/Test/ToyasCard.lean, 'card_holds'). Laid BY PROGRAM, IN A SANDBOX (cutbox-door.mjs). By AI agents, Wed Nov 11 2026. No macro, syntax, notation, axiom, sorry.
-/
import Derived.Test.YtoikodmlhkegdaaDoorRows
import GoSem.ClaimSeven
namespace Go.Proofs.YtoikodmlhkegdaaDoor
namespace Rows

/-- THE TIED CARD OF 'omnibuslaw06.ClassicWires'. -/
def classicWiresCard : Claim7 := { stood := { row := classicWiresRow, standIns := [], harness := (true, "aef55bde8b6c67132cb51206030f98c7de2c16227adaf72f57a6fbe58374b8c1"), looks := false }, kinds := [], alts := [], laidByText := true, laidKinds := [.data, .data], laidTests := true, laidLooks := .later }
def ClassicWiresCardSaid : Prop := Claim7.holds Tryd.pinned (.plain (OpenSpec.ofChange classicWiresSpec)) classicWiresCard

/-- THE TIED CARD OF 'omnibuslaw06.ClassicEnds'. -/
def classicEndsCard : Claim7 := { stood := { row := classicEndsRow, standIns := [], harness := (true, "aef55bde8b6c67132cb51206030f98c7de2c16227adaf72f57a6fbe58374b8c1"), looks := false }, kinds := [], alts := [], laidByText := true, laidKinds := [.data, .data], laidTests := true, laidLooks := .later }
def ClassicEndsCardSaid : Prop := Claim7.holds Tryd.pinned (.plain (OpenSpec.ofChange classicEndsSpec)) classicEndsCard

/-- THE TIED CARD OF 'omnibuslaw06.ClassicRuns'. -/
def classicRunsCard : Claim7 := { stood := { row := classicRunsRow, standIns := [], harness := (true, "aef55bde8b6c67132cb51206030f98c7de2c16227adaf72f57a6fbe58374b8c1"), looks := false }, kinds := [], alts := [], laidByText := true, laidKinds := [.data, .data], laidTests := true, laidLooks := .later }
def ClassicRunsCardSaid : Prop := Claim7.holds Tryd.pinned (.plain (OpenSpec.ofChange classicRunsSpec)) classicRunsCard

/-- THE TIED CARD OF 'omnibuslaw06.ClassicOrders'. -/
def classicOrdersCard : Claim7 := { stood := { row := classicOrdersRow, standIns := [], harness := (true, "aef55bde8b6c67132cb51206030f98c7de2c16227adaf72f57a6fbe58374b8c1"), looks := false }, kinds := [], alts := [], laidByText := true, laidKinds := [.data, .data], laidTests := true, laidLooks := .later }
def ClassicOrdersCardSaid : Prop := Claim7.holds Tryd.pinned (.plain (OpenSpec.ofChange classicOrdersSpec)) classicOrdersCard

/-- THE TIED CARD OF 'omnibuslaw06.ClassicApart'. -/
def classicApartCard : Claim7 := { stood := { row := classicApartRow, standIns := [], harness := (true, "aef55bde8b6c67132cb51206030f98c7de2c16227adaf72f57a6fbe58374b8c1"), looks := false }, kinds := [], alts := [], laidByText := true, laidKinds := [.data, .data], laidTests := true, laidLooks := .later }
def ClassicApartCardSaid : Prop := Claim7.holds Tryd.pinned (.plain (OpenSpec.ofChange classicApartSpec)) classicApartCard

/-- THE TIED CARD OF 'omnibuslaw06.ClassicSizes'. -/
def classicSizesCard : Claim7 := { stood := { row := classicSizesRow, standIns := [], harness := (true, "aef55bde8b6c67132cb51206030f98c7de2c16227adaf72f57a6fbe58374b8c1"), looks := false }, kinds := [], alts := [], laidByText := true, laidKinds := [.data, .data], laidTests := true, laidLooks := .later }
def ClassicSizesCardSaid : Prop := Claim7.holds Tryd.pinned (.plain (OpenSpec.ofChange classicSizesSpec)) classicSizesCard

/-- THE TIED CARD OF 'omnibuslaw07.FdWires'. -/
def fdWiresCard : Claim7 := { stood := { row := fdWiresRow, standIns := [], harness := (true, "aef55bde8b6c67132cb51206030f98c7de2c16227adaf72f57a6fbe58374b8c1"), looks := false }, kinds := [], alts := [], laidByText := true, laidKinds := [.data, .data], laidTests := true, laidLooks := .later }
def FdWiresCardSaid : Prop := Claim7.holds Tryd.pinned (.plain (OpenSpec.ofChange fdWiresSpec)) fdWiresCard

/-- THE TIED CARD OF 'omnibuslaw07.FdEnds'. -/
def fdEndsCard : Claim7 := { stood := { row := fdEndsRow, standIns := [], harness := (true, "aef55bde8b6c67132cb51206030f98c7de2c16227adaf72f57a6fbe58374b8c1"), looks := false }, kinds := [], alts := [], laidByText := true, laidKinds := [.data, .data], laidTests := true, laidLooks := .later }
def FdEndsCardSaid : Prop := Claim7.holds Tryd.pinned (.plain (OpenSpec.ofChange fdEndsSpec)) fdEndsCard

/-- THE TIED CARD OF 'omnibuslaw07.FdRuns'. -/
def fdRunsCard : Claim7 := { stood := { row := fdRunsRow, standIns := [], harness := (true, "aef55bde8b6c67132cb51206030f98c7de2c16227adaf72f57a6fbe58374b8c1"), looks := false }, kinds := [], alts := [], laidByText := true, laidKinds := [.data, .data], laidTests := true, laidLooks := .later }
def FdRunsCardSaid : Prop := Claim7.holds Tryd.pinned (.plain (OpenSpec.ofChange fdRunsSpec)) fdRunsCard

/-- THE TIED CARD OF 'omnibuslaw07.FdOrders'. -/
def fdOrdersCard : Claim7 := { stood := { row := fdOrdersRow, standIns := [], harness := (true, "aef55bde8b6c67132cb51206030f98c7de2c16227adaf72f57a6fbe58374b8c1"), looks := false }, kinds := [], alts := [], laidByText := true, laidKinds := [.data, .data], laidTests := true, laidLooks := .later }
def FdOrdersCardSaid : Prop := Claim7.holds Tryd.pinned (.plain (OpenSpec.ofChange fdOrdersSpec)) fdOrdersCard

/-- THE TIED CARD OF 'omnibuslaw07.FdApart'. -/
def fdApartCard : Claim7 := { stood := { row := fdApartRow, standIns := [], harness := (true, "aef55bde8b6c67132cb51206030f98c7de2c16227adaf72f57a6fbe58374b8c1"), looks := false }, kinds := [], alts := [], laidByText := true, laidKinds := [.data, .data], laidTests := true, laidLooks := .later }
def FdApartCardSaid : Prop := Claim7.holds Tryd.pinned (.plain (OpenSpec.ofChange fdApartSpec)) fdApartCard

/-- THE TIED CARD OF 'omnibuslaw07.FdSizes'. -/
def fdSizesCard : Claim7 := { stood := { row := fdSizesRow, standIns := [], harness := (true, "aef55bde8b6c67132cb51206030f98c7de2c16227adaf72f57a6fbe58374b8c1"), looks := false }, kinds := [], alts := [], laidByText := true, laidKinds := [.data, .data], laidTests := true, laidLooks := .later }
def FdSizesCardSaid : Prop := Claim7.holds Tryd.pinned (.plain (OpenSpec.ofChange fdSizesSpec)) fdSizesCard

/-- THE SECOND FORM's CARD OF 'omnibuslaw06.ClassicWires'. -/
def classicWiresUptoCard : Claim7 := { stood := { row := classicWiresUptoRow, standIns := [], harness := (true, "aef55bde8b6c67132cb51206030f98c7de2c16227adaf72f57a6fbe58374b8c1"), looks := false }, kinds := [], alts := [], laidByText := true, laidKinds := [.data, .data], laidTests := true, laidLooks := .later }
def ClassicWiresUptoCardSaid : Prop := Claim7.holds Tryd.pinned (.plain (OpenSpec.upto classicWiresSpec)) classicWiresUptoCard

/-- THE SECOND FORM's CARD OF 'omnibuslaw06.ClassicEnds'. -/
def classicEndsUptoCard : Claim7 := { stood := { row := classicEndsUptoRow, standIns := [], harness := (true, "aef55bde8b6c67132cb51206030f98c7de2c16227adaf72f57a6fbe58374b8c1"), looks := false }, kinds := [], alts := [], laidByText := true, laidKinds := [.data, .data], laidTests := true, laidLooks := .later }
def ClassicEndsUptoCardSaid : Prop := Claim7.holds Tryd.pinned (.plain (OpenSpec.upto classicEndsSpec)) classicEndsUptoCard

/-- THE SECOND FORM's CARD OF 'omnibuslaw06.ClassicRuns'. -/
def classicRunsUptoCard : Claim7 := { stood := { row := classicRunsUptoRow, standIns := [], harness := (true, "aef55bde8b6c67132cb51206030f98c7de2c16227adaf72f57a6fbe58374b8c1"), looks := false }, kinds := [], alts := [], laidByText := true, laidKinds := [.data, .data], laidTests := true, laidLooks := .later }
def ClassicRunsUptoCardSaid : Prop := Claim7.holds Tryd.pinned (.plain (OpenSpec.upto classicRunsSpec)) classicRunsUptoCard

/-- THE SECOND FORM's CARD OF 'omnibuslaw06.ClassicOrders'. -/
def classicOrdersUptoCard : Claim7 := { stood := { row := classicOrdersUptoRow, standIns := [], harness := (true, "aef55bde8b6c67132cb51206030f98c7de2c16227adaf72f57a6fbe58374b8c1"), looks := false }, kinds := [], alts := [], laidByText := true, laidKinds := [.data, .data], laidTests := true, laidLooks := .later }
def ClassicOrdersUptoCardSaid : Prop := Claim7.holds Tryd.pinned (.plain (OpenSpec.upto classicOrdersSpec)) classicOrdersUptoCard

/-- THE SECOND FORM's CARD OF 'omnibuslaw06.ClassicApart'. -/
def classicApartUptoCard : Claim7 := { stood := { row := classicApartUptoRow, standIns := [], harness := (true, "aef55bde8b6c67132cb51206030f98c7de2c16227adaf72f57a6fbe58374b8c1"), looks := false }, kinds := [], alts := [], laidByText := true, laidKinds := [.data, .data], laidTests := true, laidLooks := .later }
def ClassicApartUptoCardSaid : Prop := Claim7.holds Tryd.pinned (.plain (OpenSpec.upto classicApartSpec)) classicApartUptoCard

/-- THE SECOND FORM's CARD OF 'omnibuslaw06.ClassicSizes'. -/
def classicSizesUptoCard : Claim7 := { stood := { row := classicSizesUptoRow, standIns := [], harness := (true, "aef55bde8b6c67132cb51206030f98c7de2c16227adaf72f57a6fbe58374b8c1"), looks := false }, kinds := [], alts := [], laidByText := true, laidKinds := [.data, .data], laidTests := true, laidLooks := .later }
def ClassicSizesUptoCardSaid : Prop := Claim7.holds Tryd.pinned (.plain (OpenSpec.upto classicSizesSpec)) classicSizesUptoCard

/-- THE SECOND FORM's CARD OF 'omnibuslaw07.FdWires'. -/
def fdWiresUptoCard : Claim7 := { stood := { row := fdWiresUptoRow, standIns := [], harness := (true, "aef55bde8b6c67132cb51206030f98c7de2c16227adaf72f57a6fbe58374b8c1"), looks := false }, kinds := [], alts := [], laidByText := true, laidKinds := [.data, .data], laidTests := true, laidLooks := .later }
def FdWiresUptoCardSaid : Prop := Claim7.holds Tryd.pinned (.plain (OpenSpec.upto fdWiresSpec)) fdWiresUptoCard

/-- THE SECOND FORM's CARD OF 'omnibuslaw07.FdEnds'. -/
def fdEndsUptoCard : Claim7 := { stood := { row := fdEndsUptoRow, standIns := [], harness := (true, "aef55bde8b6c67132cb51206030f98c7de2c16227adaf72f57a6fbe58374b8c1"), looks := false }, kinds := [], alts := [], laidByText := true, laidKinds := [.data, .data], laidTests := true, laidLooks := .later }
def FdEndsUptoCardSaid : Prop := Claim7.holds Tryd.pinned (.plain (OpenSpec.upto fdEndsSpec)) fdEndsUptoCard

/-- THE SECOND FORM's CARD OF 'omnibuslaw07.FdRuns'. -/
def fdRunsUptoCard : Claim7 := { stood := { row := fdRunsUptoRow, standIns := [], harness := (true, "aef55bde8b6c67132cb51206030f98c7de2c16227adaf72f57a6fbe58374b8c1"), looks := false }, kinds := [], alts := [], laidByText := true, laidKinds := [.data, .data], laidTests := true, laidLooks := .later }
def FdRunsUptoCardSaid : Prop := Claim7.holds Tryd.pinned (.plain (OpenSpec.upto fdRunsSpec)) fdRunsUptoCard

/-- THE SECOND FORM's CARD OF 'omnibuslaw07.FdOrders'. -/
def fdOrdersUptoCard : Claim7 := { stood := { row := fdOrdersUptoRow, standIns := [], harness := (true, "aef55bde8b6c67132cb51206030f98c7de2c16227adaf72f57a6fbe58374b8c1"), looks := false }, kinds := [], alts := [], laidByText := true, laidKinds := [.data, .data], laidTests := true, laidLooks := .later }
def FdOrdersUptoCardSaid : Prop := Claim7.holds Tryd.pinned (.plain (OpenSpec.upto fdOrdersSpec)) fdOrdersUptoCard

/-- THE SECOND FORM's CARD OF 'omnibuslaw07.FdApart'. -/
def fdApartUptoCard : Claim7 := { stood := { row := fdApartUptoRow, standIns := [], harness := (true, "aef55bde8b6c67132cb51206030f98c7de2c16227adaf72f57a6fbe58374b8c1"), looks := false }, kinds := [], alts := [], laidByText := true, laidKinds := [.data, .data], laidTests := true, laidLooks := .later }
def FdApartUptoCardSaid : Prop := Claim7.holds Tryd.pinned (.plain (OpenSpec.upto fdApartSpec)) fdApartUptoCard

/-- THE SECOND FORM's CARD OF 'omnibuslaw07.FdSizes'. -/
def fdSizesUptoCard : Claim7 := { stood := { row := fdSizesUptoRow, standIns := [], harness := (true, "aef55bde8b6c67132cb51206030f98c7de2c16227adaf72f57a6fbe58374b8c1"), looks := false }, kinds := [], alts := [], laidByText := true, laidKinds := [.data, .data], laidTests := true, laidLooks := .later }
def FdSizesUptoCardSaid : Prop := Claim7.holds Tryd.pinned (.plain (OpenSpec.upto fdSizesSpec)) fdSizesUptoCard
end Rows
end Go.Proofs.YtoikodmlhkegdaaDoor
