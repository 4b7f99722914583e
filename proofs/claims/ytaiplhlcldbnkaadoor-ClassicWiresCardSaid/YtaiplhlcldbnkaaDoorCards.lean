/-
  DERIVED. GIVEN WITH THE SEED: THE CARDS: each row of YtaiplhlcldbnkaaDoorRows.lean that lists a variable, with what it lists TIED to the program's text (the seventh form; the later family's looks); each row that meets fmt, with fmt's text TOLD by the authors' own Lean function (tested against real Go, not proved from fmt's source: count such statements apart). THE CARD IS WHAT COUNTS. Prove the row's statement (the work); the ties are given (YtaiplhlcldbnkaaDoorTie.lean); close each card by the builder's one call (the guide's Derived/Test/ToyasCard.lean, 'card_holds'). Laid BY PROGRAM, IN A SANDBOX (cutbox-door.mjs). By AI agents, Wed Nov 11 2026. No macro, syntax, notation, axiom, sorry.
-/
import Derived.Test.YtaiplhlcldbnkaaDoorRows
import GoSem.ClaimSeven
namespace Go.Proofs.YtaiplhlcldbnkaaDoor
namespace Rows

/-- THE TIED CARD OF 'omnibuslaw06.ClassicWires'. -/
def classicWiresCard : Claim7 := { stood := { row := classicWiresRow, standIns := [], harness := (true, "45fe18e2228da1c48a1aaa97f4fc6cb398d8eabc848d1af314c3ccd993807772"), looks := false }, kinds := [], alts := [], laidByText := true, laidKinds := [.data, .data], laidTests := true, laidLooks := .later }
def ClassicWiresCardSaid : Prop := Claim7.holds Tryd.pinned (.plain (OpenSpec.ofChange classicWiresSpec)) classicWiresCard

/-- THE TIED CARD OF 'omnibuslaw06.ClassicEnds'. -/
def classicEndsCard : Claim7 := { stood := { row := classicEndsRow, standIns := [], harness := (true, "45fe18e2228da1c48a1aaa97f4fc6cb398d8eabc848d1af314c3ccd993807772"), looks := false }, kinds := [], alts := [], laidByText := true, laidKinds := [.data, .data], laidTests := true, laidLooks := .later }
def ClassicEndsCardSaid : Prop := Claim7.holds Tryd.pinned (.plain (OpenSpec.ofChange classicEndsSpec)) classicEndsCard

/-- THE TIED CARD OF 'omnibuslaw06.ClassicRuns'. -/
def classicRunsCard : Claim7 := { stood := { row := classicRunsRow, standIns := [], harness := (true, "45fe18e2228da1c48a1aaa97f4fc6cb398d8eabc848d1af314c3ccd993807772"), looks := false }, kinds := [], alts := [], laidByText := true, laidKinds := [.data, .data], laidTests := true, laidLooks := .later }
def ClassicRunsCardSaid : Prop := Claim7.holds Tryd.pinned (.plain (OpenSpec.ofChange classicRunsSpec)) classicRunsCard

/-- THE TIED CARD OF 'omnibuslaw06.ClassicOrders'. -/
def classicOrdersCard : Claim7 := { stood := { row := classicOrdersRow, standIns := [], harness := (true, "45fe18e2228da1c48a1aaa97f4fc6cb398d8eabc848d1af314c3ccd993807772"), looks := false }, kinds := [], alts := [], laidByText := true, laidKinds := [.data, .data], laidTests := true, laidLooks := .later }
def ClassicOrdersCardSaid : Prop := Claim7.holds Tryd.pinned (.plain (OpenSpec.ofChange classicOrdersSpec)) classicOrdersCard

/-- THE TIED CARD OF 'omnibuslaw06.ClassicApart'. -/
def classicApartCard : Claim7 := { stood := { row := classicApartRow, standIns := [], harness := (true, "45fe18e2228da1c48a1aaa97f4fc6cb398d8eabc848d1af314c3ccd993807772"), looks := false }, kinds := [], alts := [], laidByText := true, laidKinds := [.data, .data], laidTests := true, laidLooks := .later }
def ClassicApartCardSaid : Prop := Claim7.holds Tryd.pinned (.plain (OpenSpec.ofChange classicApartSpec)) classicApartCard

/-- THE TIED CARD OF 'omnibuslaw06.ClassicSizes'. -/
def classicSizesCard : Claim7 := { stood := { row := classicSizesRow, standIns := [], harness := (true, "45fe18e2228da1c48a1aaa97f4fc6cb398d8eabc848d1af314c3ccd993807772"), looks := false }, kinds := [], alts := [], laidByText := true, laidKinds := [.data, .data], laidTests := true, laidLooks := .later }
def ClassicSizesCardSaid : Prop := Claim7.holds Tryd.pinned (.plain (OpenSpec.ofChange classicSizesSpec)) classicSizesCard

/-- THE SECOND FORM's CARD OF 'omnibuslaw06.ClassicWires'. -/
def classicWiresUptoCard : Claim7 := { stood := { row := classicWiresUptoRow, standIns := [], harness := (true, "45fe18e2228da1c48a1aaa97f4fc6cb398d8eabc848d1af314c3ccd993807772"), looks := false }, kinds := [], alts := [], laidByText := true, laidKinds := [.data, .data], laidTests := true, laidLooks := .later }
def ClassicWiresUptoCardSaid : Prop := Claim7.holds Tryd.pinned (.plain (OpenSpec.upto classicWiresSpec)) classicWiresUptoCard

/-- THE SECOND FORM's CARD OF 'omnibuslaw06.ClassicEnds'. -/
def classicEndsUptoCard : Claim7 := { stood := { row := classicEndsUptoRow, standIns := [], harness := (true, "45fe18e2228da1c48a1aaa97f4fc6cb398d8eabc848d1af314c3ccd993807772"), looks := false }, kinds := [], alts := [], laidByText := true, laidKinds := [.data, .data], laidTests := true, laidLooks := .later }
def ClassicEndsUptoCardSaid : Prop := Claim7.holds Tryd.pinned (.plain (OpenSpec.upto classicEndsSpec)) classicEndsUptoCard

/-- THE SECOND FORM's CARD OF 'omnibuslaw06.ClassicRuns'. -/
def classicRunsUptoCard : Claim7 := { stood := { row := classicRunsUptoRow, standIns := [], harness := (true, "45fe18e2228da1c48a1aaa97f4fc6cb398d8eabc848d1af314c3ccd993807772"), looks := false }, kinds := [], alts := [], laidByText := true, laidKinds := [.data, .data], laidTests := true, laidLooks := .later }
def ClassicRunsUptoCardSaid : Prop := Claim7.holds Tryd.pinned (.plain (OpenSpec.upto classicRunsSpec)) classicRunsUptoCard

/-- THE SECOND FORM's CARD OF 'omnibuslaw06.ClassicOrders'. -/
def classicOrdersUptoCard : Claim7 := { stood := { row := classicOrdersUptoRow, standIns := [], harness := (true, "45fe18e2228da1c48a1aaa97f4fc6cb398d8eabc848d1af314c3ccd993807772"), looks := false }, kinds := [], alts := [], laidByText := true, laidKinds := [.data, .data], laidTests := true, laidLooks := .later }
def ClassicOrdersUptoCardSaid : Prop := Claim7.holds Tryd.pinned (.plain (OpenSpec.upto classicOrdersSpec)) classicOrdersUptoCard

/-- THE SECOND FORM's CARD OF 'omnibuslaw06.ClassicApart'. -/
def classicApartUptoCard : Claim7 := { stood := { row := classicApartUptoRow, standIns := [], harness := (true, "45fe18e2228da1c48a1aaa97f4fc6cb398d8eabc848d1af314c3ccd993807772"), looks := false }, kinds := [], alts := [], laidByText := true, laidKinds := [.data, .data], laidTests := true, laidLooks := .later }
def ClassicApartUptoCardSaid : Prop := Claim7.holds Tryd.pinned (.plain (OpenSpec.upto classicApartSpec)) classicApartUptoCard

/-- THE SECOND FORM's CARD OF 'omnibuslaw06.ClassicSizes'. -/
def classicSizesUptoCard : Claim7 := { stood := { row := classicSizesUptoRow, standIns := [], harness := (true, "45fe18e2228da1c48a1aaa97f4fc6cb398d8eabc848d1af314c3ccd993807772"), looks := false }, kinds := [], alts := [], laidByText := true, laidKinds := [.data, .data], laidTests := true, laidLooks := .later }
def ClassicSizesUptoCardSaid : Prop := Claim7.holds Tryd.pinned (.plain (OpenSpec.upto classicSizesSpec)) classicSizesUptoCard
end Rows
end Go.Proofs.YtaiplhlcldbnkaaDoor
