/-
  DERIVED. GIVEN WITH THE SEED: THE CARDS: each row of YtmfahnfmahahjaaDoorRows.lean that lists a variable, with what it lists TIED to the program's text (the seventh form; the later family's looks); each row that meets fmt, with fmt's text TOLD by the authors' own Lean function (tested against real Go, not proved from fmt's source: count such statements apart). THE CARD IS WHAT COUNTS. Prove the row's statement (the work); the ties are given (YtmfahnfmahahjaaDoorTie.lean); close each card by the builder's one call (the guide's Derived/Test/ToyasCard.lean, 'card_holds'). Laid BY PROGRAM, IN A SANDBOX (cutbox-door.mjs). By AI agents, Wed Nov 11 2026. No macro, syntax, notation, axiom, sorry.
-/
import Derived.Test.YtmfahnfmahahjaaDoorRows
import GoSem.ClaimSeven
namespace Go.Proofs.YtmfahnfmahahjaaDoor
namespace Rows

/-- THE TIED CARD OF 'omnibuslaw02.CrcSums'. -/
def crcSumsCard : Claim7 := { stood := { row := crcSumsRow, standIns := [], harness := (true, "7b18becc2840c9dd6ccd670cafc7b9d07660aac36a989f33d1984b1279673b88"), looks := false }, kinds := [], alts := [], laidByText := true, laidKinds := [.data], laidTests := true, laidLooks := .later }
def CrcSumsCardSaid : Prop := Claim7.holds Tryd.pinned (.plain (OpenSpec.ofChange crcSumsSpec)) crcSumsCard

/-- THE TIED CARD OF 'omnibuslaw02.CrcAdds'. -/
def crcAddsCard : Claim7 := { stood := { row := crcAddsRow, standIns := [], harness := (true, "7b18becc2840c9dd6ccd670cafc7b9d07660aac36a989f33d1984b1279673b88"), looks := false }, kinds := [], alts := [], laidByText := true, laidKinds := [.data], laidTests := true, laidLooks := .later }
def CrcAddsCardSaid : Prop := Claim7.holds Tryd.pinned (.plain (OpenSpec.ofChange crcAddsSpec)) crcAddsCard

/-- THE TIED CARD OF 'omnibuslaw02.CrcGoes'. -/
def crcGoesCard : Claim7 := { stood := { row := crcGoesRow, standIns := [], harness := (true, "7b18becc2840c9dd6ccd670cafc7b9d07660aac36a989f33d1984b1279673b88"), looks := false }, kinds := [], alts := [], laidByText := true, laidKinds := [.data], laidTests := true, laidLooks := .later }
def CrcGoesCardSaid : Prop := Claim7.holds Tryd.pinned (.plain (OpenSpec.ofChange crcGoesSpec)) crcGoesCard

/-- THE TIED CARD OF 'omnibuslaw02.CrcTurns'. -/
def crcTurnsCard : Claim7 := { stood := { row := crcTurnsRow, standIns := [], harness := (true, "7b18becc2840c9dd6ccd670cafc7b9d07660aac36a989f33d1984b1279673b88"), looks := false }, kinds := [], alts := [], laidByText := true, laidKinds := [.data], laidTests := true, laidLooks := .later }
def CrcTurnsCardSaid : Prop := Claim7.holds Tryd.pinned (.plain (OpenSpec.ofChange crcTurnsSpec)) crcTurnsCard

/-- THE TIED CARD OF 'omnibuslaw02.CrcBursts'. -/
def crcBurstsCard : Claim7 := { stood := { row := crcBurstsRow, standIns := [], harness := (true, "7b18becc2840c9dd6ccd670cafc7b9d07660aac36a989f33d1984b1279673b88"), looks := false }, kinds := [], alts := [], laidByText := true, laidKinds := [.data], laidTests := true, laidLooks := .later }
def CrcBurstsCardSaid : Prop := Claim7.holds Tryd.pinned (.plain (OpenSpec.ofChange crcBurstsSpec)) crcBurstsCard

/-- THE TIED CARD OF 'omnibuslaw02.CrcBelongs'. -/
def crcBelongsCard : Claim7 := { stood := { row := crcBelongsRow, standIns := [], harness := (true, "7b18becc2840c9dd6ccd670cafc7b9d07660aac36a989f33d1984b1279673b88"), looks := false }, kinds := [], alts := [], laidByText := true, laidKinds := [.data], laidTests := true, laidLooks := .later }
def CrcBelongsCardSaid : Prop := Claim7.holds Tryd.pinned (.plain (OpenSpec.ofChange crcBelongsSpec)) crcBelongsCard

/-- THE SECOND FORM's CARD OF 'omnibuslaw02.CrcSums'. -/
def crcSumsUptoCard : Claim7 := { stood := { row := crcSumsUptoRow, standIns := [], harness := (true, "7b18becc2840c9dd6ccd670cafc7b9d07660aac36a989f33d1984b1279673b88"), looks := false }, kinds := [], alts := [], laidByText := true, laidKinds := [.data], laidTests := true, laidLooks := .later }
def CrcSumsUptoCardSaid : Prop := Claim7.holds Tryd.pinned (.plain (OpenSpec.upto crcSumsSpec)) crcSumsUptoCard

/-- THE SECOND FORM's CARD OF 'omnibuslaw02.CrcAdds'. -/
def crcAddsUptoCard : Claim7 := { stood := { row := crcAddsUptoRow, standIns := [], harness := (true, "7b18becc2840c9dd6ccd670cafc7b9d07660aac36a989f33d1984b1279673b88"), looks := false }, kinds := [], alts := [], laidByText := true, laidKinds := [.data], laidTests := true, laidLooks := .later }
def CrcAddsUptoCardSaid : Prop := Claim7.holds Tryd.pinned (.plain (OpenSpec.upto crcAddsSpec)) crcAddsUptoCard

/-- THE SECOND FORM's CARD OF 'omnibuslaw02.CrcGoes'. -/
def crcGoesUptoCard : Claim7 := { stood := { row := crcGoesUptoRow, standIns := [], harness := (true, "7b18becc2840c9dd6ccd670cafc7b9d07660aac36a989f33d1984b1279673b88"), looks := false }, kinds := [], alts := [], laidByText := true, laidKinds := [.data], laidTests := true, laidLooks := .later }
def CrcGoesUptoCardSaid : Prop := Claim7.holds Tryd.pinned (.plain (OpenSpec.upto crcGoesSpec)) crcGoesUptoCard

/-- THE SECOND FORM's CARD OF 'omnibuslaw02.CrcTurns'. -/
def crcTurnsUptoCard : Claim7 := { stood := { row := crcTurnsUptoRow, standIns := [], harness := (true, "7b18becc2840c9dd6ccd670cafc7b9d07660aac36a989f33d1984b1279673b88"), looks := false }, kinds := [], alts := [], laidByText := true, laidKinds := [.data], laidTests := true, laidLooks := .later }
def CrcTurnsUptoCardSaid : Prop := Claim7.holds Tryd.pinned (.plain (OpenSpec.upto crcTurnsSpec)) crcTurnsUptoCard

/-- THE SECOND FORM's CARD OF 'omnibuslaw02.CrcBursts'. -/
def crcBurstsUptoCard : Claim7 := { stood := { row := crcBurstsUptoRow, standIns := [], harness := (true, "7b18becc2840c9dd6ccd670cafc7b9d07660aac36a989f33d1984b1279673b88"), looks := false }, kinds := [], alts := [], laidByText := true, laidKinds := [.data], laidTests := true, laidLooks := .later }
def CrcBurstsUptoCardSaid : Prop := Claim7.holds Tryd.pinned (.plain (OpenSpec.upto crcBurstsSpec)) crcBurstsUptoCard

/-- THE SECOND FORM's CARD OF 'omnibuslaw02.CrcBelongs'. -/
def crcBelongsUptoCard : Claim7 := { stood := { row := crcBelongsUptoRow, standIns := [], harness := (true, "7b18becc2840c9dd6ccd670cafc7b9d07660aac36a989f33d1984b1279673b88"), looks := false }, kinds := [], alts := [], laidByText := true, laidKinds := [.data], laidTests := true, laidLooks := .later }
def CrcBelongsUptoCardSaid : Prop := Claim7.holds Tryd.pinned (.plain (OpenSpec.upto crcBelongsSpec)) crcBelongsUptoCard
end Rows
end Go.Proofs.YtmfahnfmahahjaaDoor
