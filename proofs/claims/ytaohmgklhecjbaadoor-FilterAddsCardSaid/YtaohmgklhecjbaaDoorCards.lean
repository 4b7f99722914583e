/-
  DERIVED. GIVEN WITH THE SEED: THE CARDS: each row of YtaohmgklhecjbaaDoorRows.lean that lists a variable, with what it lists TIED to the program's text (the seventh form; the later family's looks); each row that meets fmt, with fmt's text TOLD by the authors' own Lean function (tested against real Go, not proved from fmt's source: count such statements apart). THE CARD IS WHAT COUNTS. Prove the row's statement (the work); the ties are given (YtaohmgklhecjbaaDoorTie.lean); close each card by the builder's one call (the guide's Derived/Test/ToyasCard.lean, 'card_holds'). Laid BY PROGRAM, IN A SANDBOX (cutbox-door.mjs). By AI agents, Wed Nov 11 2026. No macro, syntax, notation, axiom, sorry.
-/
import Derived.Test.YtaohmgklhecjbaaDoorRows
import GoSem.ClaimSeven
namespace Go.Proofs.YtaohmgklhecjbaaDoor
namespace Rows

/-- THE TIED CARD OF 'omnibuslaw15.FilterFinds'. -/
def filterFindsCard : Claim7 := { stood := { row := filterFindsRow, standIns := [], harness := (true, "0ef7fa481e678202e70b51a1de28cd44ba77f0e17785a5f60e72e74927cd9d19"), looks := false }, kinds := [], alts := [], laidByText := true, laidKinds := [.data], laidTests := true, laidLooks := .later }
def FilterFindsCardSaid : Prop := Claim7.holds Tryd.pinned (.plain (OpenSpec.ofChange filterFindsSpec)) filterFindsCard

/-- THE TIED CARD OF 'omnibuslaw15.FilterLeast'. -/
def filterLeastCard : Claim7 := { stood := { row := filterLeastRow, standIns := [], harness := (true, "0ef7fa481e678202e70b51a1de28cd44ba77f0e17785a5f60e72e74927cd9d19"), looks := false }, kinds := [], alts := [], laidByText := true, laidKinds := [.data], laidTests := true, laidLooks := .later }
def FilterLeastCardSaid : Prop := Claim7.holds Tryd.pinned (.plain (OpenSpec.ofChange filterLeastSpec)) filterLeastCard

/-- THE TIED CARD OF 'omnibuslaw15.FilterSame'. -/
def filterSameCard : Claim7 := { stood := { row := filterSameRow, standIns := [], harness := (true, "0ef7fa481e678202e70b51a1de28cd44ba77f0e17785a5f60e72e74927cd9d19"), looks := false }, kinds := [], alts := [], laidByText := true, laidKinds := [.data], laidTests := true, laidLooks := .later }
def FilterSameCardSaid : Prop := Claim7.holds Tryd.pinned (.plain (OpenSpec.ofChange filterSameSpec)) filterSameCard

/-- THE TIED CARD OF 'omnibuslaw15.FilterShadows'. -/
def filterShadowsCard : Claim7 := { stood := { row := filterShadowsRow, standIns := [], harness := (true, "0ef7fa481e678202e70b51a1de28cd44ba77f0e17785a5f60e72e74927cd9d19"), looks := false }, kinds := [], alts := [], laidByText := true, laidKinds := [.data], laidTests := true, laidLooks := .later }
def FilterShadowsCardSaid : Prop := Claim7.holds Tryd.pinned (.plain (OpenSpec.ofChange filterShadowsSpec)) filterShadowsCard

/-- THE TIED CARD OF 'omnibuslaw15.FilterMasks'. -/
def filterMasksCard : Claim7 := { stood := { row := filterMasksRow, standIns := [], harness := (true, "0ef7fa481e678202e70b51a1de28cd44ba77f0e17785a5f60e72e74927cd9d19"), looks := false }, kinds := [], alts := [], laidByText := true, laidKinds := [.data], laidTests := true, laidLooks := .later }
def FilterMasksCardSaid : Prop := Claim7.holds Tryd.pinned (.plain (OpenSpec.ofChange filterMasksSpec)) filterMasksCard

/-- THE TIED CARD OF 'omnibuslaw15.FilterAdds'. -/
def filterAddsCard : Claim7 := { stood := { row := filterAddsRow, standIns := [], harness := (true, "0ef7fa481e678202e70b51a1de28cd44ba77f0e17785a5f60e72e74927cd9d19"), looks := false }, kinds := [], alts := [], laidByText := true, laidKinds := [.data], laidTests := true, laidLooks := .later }
def FilterAddsCardSaid : Prop := Claim7.holds Tryd.pinned (.plain (OpenSpec.ofChange filterAddsSpec)) filterAddsCard

/-- THE SECOND FORM's CARD OF 'omnibuslaw15.FilterFinds'. -/
def filterFindsUptoCard : Claim7 := { stood := { row := filterFindsUptoRow, standIns := [], harness := (true, "0ef7fa481e678202e70b51a1de28cd44ba77f0e17785a5f60e72e74927cd9d19"), looks := false }, kinds := [], alts := [], laidByText := true, laidKinds := [.data], laidTests := true, laidLooks := .later }
def FilterFindsUptoCardSaid : Prop := Claim7.holds Tryd.pinned (.plain (OpenSpec.upto filterFindsSpec)) filterFindsUptoCard

/-- THE SECOND FORM's CARD OF 'omnibuslaw15.FilterLeast'. -/
def filterLeastUptoCard : Claim7 := { stood := { row := filterLeastUptoRow, standIns := [], harness := (true, "0ef7fa481e678202e70b51a1de28cd44ba77f0e17785a5f60e72e74927cd9d19"), looks := false }, kinds := [], alts := [], laidByText := true, laidKinds := [.data], laidTests := true, laidLooks := .later }
def FilterLeastUptoCardSaid : Prop := Claim7.holds Tryd.pinned (.plain (OpenSpec.upto filterLeastSpec)) filterLeastUptoCard

/-- THE SECOND FORM's CARD OF 'omnibuslaw15.FilterSame'. -/
def filterSameUptoCard : Claim7 := { stood := { row := filterSameUptoRow, standIns := [], harness := (true, "0ef7fa481e678202e70b51a1de28cd44ba77f0e17785a5f60e72e74927cd9d19"), looks := false }, kinds := [], alts := [], laidByText := true, laidKinds := [.data], laidTests := true, laidLooks := .later }
def FilterSameUptoCardSaid : Prop := Claim7.holds Tryd.pinned (.plain (OpenSpec.upto filterSameSpec)) filterSameUptoCard

/-- THE SECOND FORM's CARD OF 'omnibuslaw15.FilterShadows'. -/
def filterShadowsUptoCard : Claim7 := { stood := { row := filterShadowsUptoRow, standIns := [], harness := (true, "0ef7fa481e678202e70b51a1de28cd44ba77f0e17785a5f60e72e74927cd9d19"), looks := false }, kinds := [], alts := [], laidByText := true, laidKinds := [.data], laidTests := true, laidLooks := .later }
def FilterShadowsUptoCardSaid : Prop := Claim7.holds Tryd.pinned (.plain (OpenSpec.upto filterShadowsSpec)) filterShadowsUptoCard

/-- THE SECOND FORM's CARD OF 'omnibuslaw15.FilterMasks'. -/
def filterMasksUptoCard : Claim7 := { stood := { row := filterMasksUptoRow, standIns := [], harness := (true, "0ef7fa481e678202e70b51a1de28cd44ba77f0e17785a5f60e72e74927cd9d19"), looks := false }, kinds := [], alts := [], laidByText := true, laidKinds := [.data], laidTests := true, laidLooks := .later }
def FilterMasksUptoCardSaid : Prop := Claim7.holds Tryd.pinned (.plain (OpenSpec.upto filterMasksSpec)) filterMasksUptoCard

/-- THE SECOND FORM's CARD OF 'omnibuslaw15.FilterAdds'. -/
def filterAddsUptoCard : Claim7 := { stood := { row := filterAddsUptoRow, standIns := [], harness := (true, "0ef7fa481e678202e70b51a1de28cd44ba77f0e17785a5f60e72e74927cd9d19"), looks := false }, kinds := [], alts := [], laidByText := true, laidKinds := [.data], laidTests := true, laidLooks := .later }
def FilterAddsUptoCardSaid : Prop := Claim7.holds Tryd.pinned (.plain (OpenSpec.upto filterAddsSpec)) filterAddsUptoCard
end Rows
end Go.Proofs.YtaohmgklhecjbaaDoor
