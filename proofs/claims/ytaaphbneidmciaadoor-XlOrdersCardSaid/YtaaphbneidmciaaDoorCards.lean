/-
  DERIVED. GIVEN WITH THE SEED: THE CARDS: each row of YtaaphbneidmciaaDoorRows.lean that lists a variable, with what it lists TIED to the program's text (the seventh form; the later family's looks); each row that meets fmt, with fmt's text TOLD by the authors' own Lean function (tested against real Go, not proved from fmt's source: count such statements apart). THE CARD IS WHAT COUNTS. Prove the row's statement (the work); the ties are given (YtaaphbneidmciaaDoorTie.lean); close each card by the builder's one call (the guide's Derived/Test/ToyasCard.lean, 'card_holds'). Laid BY PROGRAM, IN A SANDBOX (cutbox-door.mjs). By AI agents, Wed Nov 11 2026. No macro, syntax, notation, axiom, sorry.
-/
import Derived.Test.YtaaphbneidmciaaDoorRows
import GoSem.ClaimSeven
namespace Go.Proofs.YtaaphbneidmciaaDoor
namespace Rows

/-- THE TIED CARD OF 'omnibuslaw08.XlWires'. -/
def xlWiresCard : Claim7 := { stood := { row := xlWiresRow, standIns := [], harness := (true, "9a527ed82c9f432b5a21e71192f047c9dd449498fab7a900d92e786a09275396"), looks := false }, kinds := [], alts := [], laidByText := true, laidKinds := [.data, .data], laidTests := true, laidLooks := .later }
def XlWiresCardSaid : Prop := Claim7.holds Tryd.pinned (.plain (OpenSpec.ofChange xlWiresSpec)) xlWiresCard

/-- THE TIED CARD OF 'omnibuslaw08.XlEnds'. -/
def xlEndsCard : Claim7 := { stood := { row := xlEndsRow, standIns := [], harness := (true, "9a527ed82c9f432b5a21e71192f047c9dd449498fab7a900d92e786a09275396"), looks := false }, kinds := [], alts := [], laidByText := true, laidKinds := [.data, .data], laidTests := true, laidLooks := .later }
def XlEndsCardSaid : Prop := Claim7.holds Tryd.pinned (.plain (OpenSpec.ofChange xlEndsSpec)) xlEndsCard

/-- THE TIED CARD OF 'omnibuslaw08.XlRuns'. -/
def xlRunsCard : Claim7 := { stood := { row := xlRunsRow, standIns := [], harness := (true, "9a527ed82c9f432b5a21e71192f047c9dd449498fab7a900d92e786a09275396"), looks := false }, kinds := [], alts := [], laidByText := true, laidKinds := [.data, .data], laidTests := true, laidLooks := .later }
def XlRunsCardSaid : Prop := Claim7.holds Tryd.pinned (.plain (OpenSpec.ofChange xlRunsSpec)) xlRunsCard

/-- THE TIED CARD OF 'omnibuslaw08.XlOrders'. -/
def xlOrdersCard : Claim7 := { stood := { row := xlOrdersRow, standIns := [], harness := (true, "9a527ed82c9f432b5a21e71192f047c9dd449498fab7a900d92e786a09275396"), looks := false }, kinds := [], alts := [], laidByText := true, laidKinds := [.data, .data], laidTests := true, laidLooks := .later }
def XlOrdersCardSaid : Prop := Claim7.holds Tryd.pinned (.plain (OpenSpec.ofChange xlOrdersSpec)) xlOrdersCard

/-- THE TIED CARD OF 'omnibuslaw08.XlApart'. -/
def xlApartCard : Claim7 := { stood := { row := xlApartRow, standIns := [], harness := (true, "9a527ed82c9f432b5a21e71192f047c9dd449498fab7a900d92e786a09275396"), looks := false }, kinds := [], alts := [], laidByText := true, laidKinds := [.data, .data], laidTests := true, laidLooks := .later }
def XlApartCardSaid : Prop := Claim7.holds Tryd.pinned (.plain (OpenSpec.ofChange xlApartSpec)) xlApartCard

/-- THE TIED CARD OF 'omnibuslaw08.XlSizes'. -/
def xlSizesCard : Claim7 := { stood := { row := xlSizesRow, standIns := [], harness := (true, "9a527ed82c9f432b5a21e71192f047c9dd449498fab7a900d92e786a09275396"), looks := false }, kinds := [], alts := [], laidByText := true, laidKinds := [.data, .data], laidTests := true, laidLooks := .later }
def XlSizesCardSaid : Prop := Claim7.holds Tryd.pinned (.plain (OpenSpec.ofChange xlSizesSpec)) xlSizesCard

/-- THE SECOND FORM's CARD OF 'omnibuslaw08.XlWires'. -/
def xlWiresUptoCard : Claim7 := { stood := { row := xlWiresUptoRow, standIns := [], harness := (true, "9a527ed82c9f432b5a21e71192f047c9dd449498fab7a900d92e786a09275396"), looks := false }, kinds := [], alts := [], laidByText := true, laidKinds := [.data, .data], laidTests := true, laidLooks := .later }
def XlWiresUptoCardSaid : Prop := Claim7.holds Tryd.pinned (.plain (OpenSpec.upto xlWiresSpec)) xlWiresUptoCard

/-- THE SECOND FORM's CARD OF 'omnibuslaw08.XlEnds'. -/
def xlEndsUptoCard : Claim7 := { stood := { row := xlEndsUptoRow, standIns := [], harness := (true, "9a527ed82c9f432b5a21e71192f047c9dd449498fab7a900d92e786a09275396"), looks := false }, kinds := [], alts := [], laidByText := true, laidKinds := [.data, .data], laidTests := true, laidLooks := .later }
def XlEndsUptoCardSaid : Prop := Claim7.holds Tryd.pinned (.plain (OpenSpec.upto xlEndsSpec)) xlEndsUptoCard

/-- THE SECOND FORM's CARD OF 'omnibuslaw08.XlRuns'. -/
def xlRunsUptoCard : Claim7 := { stood := { row := xlRunsUptoRow, standIns := [], harness := (true, "9a527ed82c9f432b5a21e71192f047c9dd449498fab7a900d92e786a09275396"), looks := false }, kinds := [], alts := [], laidByText := true, laidKinds := [.data, .data], laidTests := true, laidLooks := .later }
def XlRunsUptoCardSaid : Prop := Claim7.holds Tryd.pinned (.plain (OpenSpec.upto xlRunsSpec)) xlRunsUptoCard

/-- THE SECOND FORM's CARD OF 'omnibuslaw08.XlOrders'. -/
def xlOrdersUptoCard : Claim7 := { stood := { row := xlOrdersUptoRow, standIns := [], harness := (true, "9a527ed82c9f432b5a21e71192f047c9dd449498fab7a900d92e786a09275396"), looks := false }, kinds := [], alts := [], laidByText := true, laidKinds := [.data, .data], laidTests := true, laidLooks := .later }
def XlOrdersUptoCardSaid : Prop := Claim7.holds Tryd.pinned (.plain (OpenSpec.upto xlOrdersSpec)) xlOrdersUptoCard

/-- THE SECOND FORM's CARD OF 'omnibuslaw08.XlApart'. -/
def xlApartUptoCard : Claim7 := { stood := { row := xlApartUptoRow, standIns := [], harness := (true, "9a527ed82c9f432b5a21e71192f047c9dd449498fab7a900d92e786a09275396"), looks := false }, kinds := [], alts := [], laidByText := true, laidKinds := [.data, .data], laidTests := true, laidLooks := .later }
def XlApartUptoCardSaid : Prop := Claim7.holds Tryd.pinned (.plain (OpenSpec.upto xlApartSpec)) xlApartUptoCard

/-- THE SECOND FORM's CARD OF 'omnibuslaw08.XlSizes'. -/
def xlSizesUptoCard : Claim7 := { stood := { row := xlSizesUptoRow, standIns := [], harness := (true, "9a527ed82c9f432b5a21e71192f047c9dd449498fab7a900d92e786a09275396"), looks := false }, kinds := [], alts := [], laidByText := true, laidKinds := [.data, .data], laidTests := true, laidLooks := .later }
def XlSizesUptoCardSaid : Prop := Claim7.holds Tryd.pinned (.plain (OpenSpec.upto xlSizesSpec)) xlSizesUptoCard
end Rows
end Go.Proofs.YtaaphbneidmciaaDoor
