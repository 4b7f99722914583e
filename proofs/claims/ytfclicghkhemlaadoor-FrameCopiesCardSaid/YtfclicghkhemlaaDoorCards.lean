/-
  DERIVED. GIVEN WITH THE SEED: THE CARDS: each row of YtfclicghkhemlaaDoorRows.lean that lists a variable, with what it lists TIED to the program's text (the seventh form; the later family's looks); each row that meets fmt, with fmt's text TOLD by the authors' own Lean function (tested against real Go, not proved from fmt's source: count such statements apart). THE CARD IS WHAT COUNTS. Prove the row's statement (the work); the ties are given (YtfclicghkhemlaaDoorTie.lean); close each card by the builder's one call (the guide's Derived/Test/ToyasCard.lean, 'card_holds'). Laid BY PROGRAM, IN A SANDBOX (cutbox-door.mjs). By AI agents, Wed Nov 11 2026. No macro, syntax, notation, axiom, sorry.
-/
import Derived.Test.YtfclicghkhemlaaDoorRows
import GoSem.ClaimSeven
namespace Go.Proofs.YtfclicghkhemlaaDoor
namespace Rows

/-- THE TIED CARD OF 'omnibuslaw05.FrameChecks'. -/
def frameChecksCard : Claim7 := { stood := { row := frameChecksRow, standIns := [], harness := (true, "07571b512582fac6ebbf523e7c173e643786e583b901d9cd07a4e9b85d3248a1"), looks := false }, kinds := [], alts := [], laidByText := true, laidKinds := [.data], laidTests := true, laidLooks := .later }
def FrameChecksCardSaid : Prop := Claim7.holds Tryd.pinned (.plain (OpenSpec.ofChange frameChecksSpec)) frameChecksCard

/-- THE TIED CARD OF 'omnibuslaw05.FrameSizes'. -/
def frameSizesCard : Claim7 := { stood := { row := frameSizesRow, standIns := [], harness := (true, "07571b512582fac6ebbf523e7c173e643786e583b901d9cd07a4e9b85d3248a1"), looks := false }, kinds := [], alts := [], laidByText := true, laidKinds := [.data], laidTests := true, laidLooks := .later }
def FrameSizesCardSaid : Prop := Claim7.holds Tryd.pinned (.plain (OpenSpec.ofChange frameSizesSpec)) frameSizesCard

/-- THE TIED CARD OF 'omnibuslaw05.FrameBack'. -/
def frameBackCard : Claim7 := { stood := { row := frameBackRow, standIns := [], harness := (true, "07571b512582fac6ebbf523e7c173e643786e583b901d9cd07a4e9b85d3248a1"), looks := false }, kinds := [], alts := [], laidByText := true, laidKinds := [.data], laidTests := true, laidLooks := .later }
def FrameBackCardSaid : Prop := Claim7.holds Tryd.pinned (.plain (OpenSpec.ofChange frameBackSpec)) frameBackCard

/-- THE TIED CARD OF 'omnibuslaw05.FrameRises'. -/
def frameRisesCard : Claim7 := { stood := { row := frameRisesRow, standIns := [], harness := (true, "07571b512582fac6ebbf523e7c173e643786e583b901d9cd07a4e9b85d3248a1"), looks := false }, kinds := [], alts := [], laidByText := true, laidKinds := [.data], laidTests := true, laidLooks := .later }
def FrameRisesCardSaid : Prop := Claim7.holds Tryd.pinned (.plain (OpenSpec.ofChange frameRisesSpec)) frameRisesCard

/-- THE TIED CARD OF 'omnibuslaw05.FrameCopies'. -/
def frameCopiesCard : Claim7 := { stood := { row := frameCopiesRow, standIns := [], harness := (true, "07571b512582fac6ebbf523e7c173e643786e583b901d9cd07a4e9b85d3248a1"), looks := false }, kinds := [], alts := [], laidByText := true, laidKinds := [.data], laidTests := true, laidLooks := .later }
def FrameCopiesCardSaid : Prop := Claim7.holds Tryd.pinned (.plain (OpenSpec.ofChange frameCopiesSpec)) frameCopiesCard

/-- THE TIED CARD OF 'omnibuslaw05.FrameKinds'. -/
def frameKindsCard : Claim7 := { stood := { row := frameKindsRow, standIns := [], harness := (true, "07571b512582fac6ebbf523e7c173e643786e583b901d9cd07a4e9b85d3248a1"), looks := false }, kinds := [], alts := [], laidByText := true, laidKinds := [.data], laidTests := true, laidLooks := .later }
def FrameKindsCardSaid : Prop := Claim7.holds Tryd.pinned (.plain (OpenSpec.ofChange frameKindsSpec)) frameKindsCard

/-- THE SECOND FORM's CARD OF 'omnibuslaw05.FrameChecks'. -/
def frameChecksUptoCard : Claim7 := { stood := { row := frameChecksUptoRow, standIns := [], harness := (true, "07571b512582fac6ebbf523e7c173e643786e583b901d9cd07a4e9b85d3248a1"), looks := false }, kinds := [], alts := [], laidByText := true, laidKinds := [.data], laidTests := true, laidLooks := .later }
def FrameChecksUptoCardSaid : Prop := Claim7.holds Tryd.pinned (.plain (OpenSpec.upto frameChecksSpec)) frameChecksUptoCard

/-- THE SECOND FORM's CARD OF 'omnibuslaw05.FrameSizes'. -/
def frameSizesUptoCard : Claim7 := { stood := { row := frameSizesUptoRow, standIns := [], harness := (true, "07571b512582fac6ebbf523e7c173e643786e583b901d9cd07a4e9b85d3248a1"), looks := false }, kinds := [], alts := [], laidByText := true, laidKinds := [.data], laidTests := true, laidLooks := .later }
def FrameSizesUptoCardSaid : Prop := Claim7.holds Tryd.pinned (.plain (OpenSpec.upto frameSizesSpec)) frameSizesUptoCard

/-- THE SECOND FORM's CARD OF 'omnibuslaw05.FrameBack'. -/
def frameBackUptoCard : Claim7 := { stood := { row := frameBackUptoRow, standIns := [], harness := (true, "07571b512582fac6ebbf523e7c173e643786e583b901d9cd07a4e9b85d3248a1"), looks := false }, kinds := [], alts := [], laidByText := true, laidKinds := [.data], laidTests := true, laidLooks := .later }
def FrameBackUptoCardSaid : Prop := Claim7.holds Tryd.pinned (.plain (OpenSpec.upto frameBackSpec)) frameBackUptoCard

/-- THE SECOND FORM's CARD OF 'omnibuslaw05.FrameRises'. -/
def frameRisesUptoCard : Claim7 := { stood := { row := frameRisesUptoRow, standIns := [], harness := (true, "07571b512582fac6ebbf523e7c173e643786e583b901d9cd07a4e9b85d3248a1"), looks := false }, kinds := [], alts := [], laidByText := true, laidKinds := [.data], laidTests := true, laidLooks := .later }
def FrameRisesUptoCardSaid : Prop := Claim7.holds Tryd.pinned (.plain (OpenSpec.upto frameRisesSpec)) frameRisesUptoCard

/-- THE SECOND FORM's CARD OF 'omnibuslaw05.FrameCopies'. -/
def frameCopiesUptoCard : Claim7 := { stood := { row := frameCopiesUptoRow, standIns := [], harness := (true, "07571b512582fac6ebbf523e7c173e643786e583b901d9cd07a4e9b85d3248a1"), looks := false }, kinds := [], alts := [], laidByText := true, laidKinds := [.data], laidTests := true, laidLooks := .later }
def FrameCopiesUptoCardSaid : Prop := Claim7.holds Tryd.pinned (.plain (OpenSpec.upto frameCopiesSpec)) frameCopiesUptoCard

/-- THE SECOND FORM's CARD OF 'omnibuslaw05.FrameKinds'. -/
def frameKindsUptoCard : Claim7 := { stood := { row := frameKindsUptoRow, standIns := [], harness := (true, "07571b512582fac6ebbf523e7c173e643786e583b901d9cd07a4e9b85d3248a1"), looks := false }, kinds := [], alts := [], laidByText := true, laidKinds := [.data], laidTests := true, laidLooks := .later }
def FrameKindsUptoCardSaid : Prop := Claim7.holds Tryd.pinned (.plain (OpenSpec.upto frameKindsSpec)) frameKindsUptoCard
end Rows
end Go.Proofs.YtfclicghkhemlaaDoor
