/-
  DERIVED. GIVEN WITH THE SEED: THE CARDS: each row of YtlmbggmamemmjaaDoorRows.lean that lists a variable, with what it lists TIED to the program's text (the seventh form; the later family's looks); each row that meets fmt, with fmt's text TOLD by the authors' own Lean function (tested against real Go, not proved from fmt's source: count such statements apart). THE CARD IS WHAT COUNTS. Prove the row's statement (the work); the ties are given (YtlmbggmamemmjaaDoorTie.lean); close each card by the builder's one call (the guide's Derived/Test/ToyasCard.lean, 'card_holds'). Laid BY PROGRAM, IN A SANDBOX (cutbox-door.mjs). By AI agents, Wed Nov 11 2026. No macro, syntax, notation, axiom, sorry.
-/
import Derived.Test.YtlmbggmamemmjaaDoorRows
import GoSem.ClaimSeven
namespace Go.Proofs.YtlmbggmamemmjaaDoor
namespace Rows

/-- THE TIED CARD OF 'omnibuslaw16.FifoActs'. -/
def fifoActsCard : Claim7 := { stood := { row := fifoActsRow, standIns := [], harness := (true, "36bda779f59e03d143949220b7f9977ac01e12117581c0055bac176b46815c2c"), looks := false }, kinds := [], alts := [], laidByText := true, laidKinds := [.data], laidTests := true, laidLooks := .later }
def FifoActsCardSaid : Prop := Claim7.holds Tryd.pinned (.plain (OpenSpec.ofChange fifoActsSpec)) fifoActsCard

/-- THE TIED CARD OF 'omnibuslaw16.FifoOrders'. -/
def fifoOrdersCard : Claim7 := { stood := { row := fifoOrdersRow, standIns := [], harness := (true, "36bda779f59e03d143949220b7f9977ac01e12117581c0055bac176b46815c2c"), looks := false }, kinds := [], alts := [], laidByText := true, laidKinds := [.data], laidTests := true, laidLooks := .later }
def FifoOrdersCardSaid : Prop := Claim7.holds Tryd.pinned (.plain (OpenSpec.ofChange fifoOrdersSpec)) fifoOrdersCard

/-- THE TIED CARD OF 'omnibuslaw16.FifoTurns'. -/
def fifoTurnsCard : Claim7 := { stood := { row := fifoTurnsRow, standIns := [], harness := (true, "36bda779f59e03d143949220b7f9977ac01e12117581c0055bac176b46815c2c"), looks := false }, kinds := [], alts := [], laidByText := true, laidKinds := [.data], laidTests := true, laidLooks := .later }
def FifoTurnsCardSaid : Prop := Claim7.holds Tryd.pinned (.plain (OpenSpec.ofChange fifoTurnsSpec)) fifoTurnsCard

/-- THE TIED CARD OF 'omnibuslaw16.FifoOwn'. -/
def fifoOwnCard : Claim7 := { stood := { row := fifoOwnRow, standIns := [], harness := (true, "36bda779f59e03d143949220b7f9977ac01e12117581c0055bac176b46815c2c"), looks := false }, kinds := [], alts := [], laidByText := true, laidKinds := [.data], laidTests := true, laidLooks := .later }
def FifoOwnCardSaid : Prop := Claim7.holds Tryd.pinned (.plain (OpenSpec.ofChange fifoOwnSpec)) fifoOwnCard

/-- THE TIED CARD OF 'omnibuslaw16.FifoClears'. -/
def fifoClearsCard : Claim7 := { stood := { row := fifoClearsRow, standIns := [], harness := (true, "36bda779f59e03d143949220b7f9977ac01e12117581c0055bac176b46815c2c"), looks := false }, kinds := [], alts := [], laidByText := true, laidKinds := [.data], laidTests := true, laidLooks := .later }
def FifoClearsCardSaid : Prop := Claim7.holds Tryd.pinned (.plain (OpenSpec.ofChange fifoClearsSpec)) fifoClearsCard

/-- THE TIED CARD OF 'omnibuslaw16.FifoNone'. -/
def fifoNoneCard : Claim7 := { stood := { row := fifoNoneRow, standIns := [], harness := (true, "36bda779f59e03d143949220b7f9977ac01e12117581c0055bac176b46815c2c"), looks := false }, kinds := [], alts := [], laidByText := true, laidKinds := [.data], laidTests := true, laidLooks := .later }
def FifoNoneCardSaid : Prop := Claim7.holds Tryd.pinned (.plain (OpenSpec.ofChange fifoNoneSpec)) fifoNoneCard

/-- THE SECOND FORM's CARD OF 'omnibuslaw16.FifoActs'. -/
def fifoActsUptoCard : Claim7 := { stood := { row := fifoActsUptoRow, standIns := [], harness := (true, "36bda779f59e03d143949220b7f9977ac01e12117581c0055bac176b46815c2c"), looks := false }, kinds := [], alts := [], laidByText := true, laidKinds := [.data], laidTests := true, laidLooks := .later }
def FifoActsUptoCardSaid : Prop := Claim7.holds Tryd.pinned (.plain (OpenSpec.upto fifoActsSpec)) fifoActsUptoCard

/-- THE SECOND FORM's CARD OF 'omnibuslaw16.FifoOrders'. -/
def fifoOrdersUptoCard : Claim7 := { stood := { row := fifoOrdersUptoRow, standIns := [], harness := (true, "36bda779f59e03d143949220b7f9977ac01e12117581c0055bac176b46815c2c"), looks := false }, kinds := [], alts := [], laidByText := true, laidKinds := [.data], laidTests := true, laidLooks := .later }
def FifoOrdersUptoCardSaid : Prop := Claim7.holds Tryd.pinned (.plain (OpenSpec.upto fifoOrdersSpec)) fifoOrdersUptoCard

/-- THE SECOND FORM's CARD OF 'omnibuslaw16.FifoTurns'. -/
def fifoTurnsUptoCard : Claim7 := { stood := { row := fifoTurnsUptoRow, standIns := [], harness := (true, "36bda779f59e03d143949220b7f9977ac01e12117581c0055bac176b46815c2c"), looks := false }, kinds := [], alts := [], laidByText := true, laidKinds := [.data], laidTests := true, laidLooks := .later }
def FifoTurnsUptoCardSaid : Prop := Claim7.holds Tryd.pinned (.plain (OpenSpec.upto fifoTurnsSpec)) fifoTurnsUptoCard

/-- THE SECOND FORM's CARD OF 'omnibuslaw16.FifoOwn'. -/
def fifoOwnUptoCard : Claim7 := { stood := { row := fifoOwnUptoRow, standIns := [], harness := (true, "36bda779f59e03d143949220b7f9977ac01e12117581c0055bac176b46815c2c"), looks := false }, kinds := [], alts := [], laidByText := true, laidKinds := [.data], laidTests := true, laidLooks := .later }
def FifoOwnUptoCardSaid : Prop := Claim7.holds Tryd.pinned (.plain (OpenSpec.upto fifoOwnSpec)) fifoOwnUptoCard

/-- THE SECOND FORM's CARD OF 'omnibuslaw16.FifoClears'. -/
def fifoClearsUptoCard : Claim7 := { stood := { row := fifoClearsUptoRow, standIns := [], harness := (true, "36bda779f59e03d143949220b7f9977ac01e12117581c0055bac176b46815c2c"), looks := false }, kinds := [], alts := [], laidByText := true, laidKinds := [.data], laidTests := true, laidLooks := .later }
def FifoClearsUptoCardSaid : Prop := Claim7.holds Tryd.pinned (.plain (OpenSpec.upto fifoClearsSpec)) fifoClearsUptoCard

/-- THE SECOND FORM's CARD OF 'omnibuslaw16.FifoNone'. -/
def fifoNoneUptoCard : Claim7 := { stood := { row := fifoNoneUptoRow, standIns := [], harness := (true, "36bda779f59e03d143949220b7f9977ac01e12117581c0055bac176b46815c2c"), looks := false }, kinds := [], alts := [], laidByText := true, laidKinds := [.data], laidTests := true, laidLooks := .later }
def FifoNoneUptoCardSaid : Prop := Claim7.holds Tryd.pinned (.plain (OpenSpec.upto fifoNoneSpec)) fifoNoneUptoCard
end Rows
end Go.Proofs.YtlmbggmamemmjaaDoor
