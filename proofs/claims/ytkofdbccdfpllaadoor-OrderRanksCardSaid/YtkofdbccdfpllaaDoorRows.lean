/-
  NARROWER THAN 'FOR EVERY INPUT', by the rows' own cells (each row's printed sentence says how): OrderRanks: laid · OrderPlaces: laid.
  DERIVED. THE GIVEN ROWS OF THIS SEAT. 2 by the template 'for every input the law returns true; each argument reads behind the call as it read before'; 0 by the template 'total and deterministic' (their statements: YtkofdbccdfpllaaDoorTotals.lean).
  GIVEN WITH THE SEED: the statements are not yours to turn. If you find one false, say at which input.
  Laid BY PROGRAM, IN A SANDBOX (cutbox-rows.mjs): the forced cells as the released guide's own fill.sh prints them over the translation 75a0a4d7f60d5633… (all of the seat's roots in one cut). By AI agents, Wed Nov 11 2026. No macro, syntax, notation, axiom, sorry.
-/
import Derived.Test.YtkofdbccdfpllaaDoorChecked
import GoSem.Claim
import GoSem.ClaimJoined
import GoSem.ClaimMapViews
import Derived.JoinedTies
import Derived.KernelRfl
namespace Go.Proofs.YtkofdbccdfpllaaDoor
/- THE CELL 'sum', in the pinned program and in every row, IS THE sha256 OF THE DUMP (.gsa) THAT YtkofdbccdfpllaaDoorProg.lean LOADS. Nothing in Lean hashes anything: it is a label: what it is worth is what the hold of that sum in a sandbox is worth. -/
noncomputable def Tryd.pinned : Pinned := { name := "ytkofdbccdfpllaadoor", sum := "75a0a4d7f60d56335da6e1745cad9e5392aeb5b1ab418c640c0120cd6d2b2ecc", checked := Tryd.checked }
namespace Rows
def none {H : Type} : Left H := { results := [], args := [] }

/- WHAT THE LISTED PACKAGE-LEVEL VARIABLES READ AS WHEN THE CALL BEGINS. Each datum BY PROGRAM (the guide's laid-datum.mjs) off the statement by which the dump's own 'gosem.cut.vars' lays the variable. In a bare row this is a premise. The card (YtkofdbccdfpllaaDoorCards.lean) ties it to the program's text. -/
def laid_omnibus_frame_longer {H : Type} : DataW H := .agg [.lit (.int .i64 12), .lit (.int .i64 16), .lit (.int .i64 20), .lit (.int .i64 24), .lit (.int .i64 32), .lit (.int .i64 48), .lit (.int .i64 64)]

/-- 'omnibuslaw10.OrderRanks': WHATEVER THE INPUT: true; the input reads as it did. -/
def orderRanksSpec : ChangeSpec := { name := "orderRanks", fn := fun _ => fun
  | [d] => { results := [.lit (.bool true)], args := [d] }
  | _ => none }
def orderRanksRow : OpenClaim := { program := "ytkofdbccdfpllaadoor", sum := "75a0a4d7f60d56335da6e1745cad9e5392aeb5b1ab418c640c0120cd6d2b2ecc", func := "omnibus/omnibuslaw10.OrderRanks", spec := "orderRanks", unfollowed := true, recurses := true, named := ["omnibus/frame.longer"], apart := false, laid := [("omnibus/frame.longer", laid_omnibus_frame_longer)] }
def OrderRanksSaid : Prop := orderRanksRow.holds Tryd.pinned (OpenSpec.ofChange orderRanksSpec)

/-- ITS FALSE NEIGHBOUR: 'it returns false'. Refute it at one input. -/
def orderRanksWrong : ChangeSpec := { name := "orderRanks", fn := fun _ => fun
  | [d] => { results := [.lit (.bool false)], args := [d] }
  | _ => none }
def OrderRanksWrongFalsely : Prop := orderRanksRow.holds Tryd.pinned (OpenSpec.ofChange orderRanksWrong)

/-- 'omnibuslaw10.OrderPlaces': WHATEVER THE INPUT: true; the input reads as it did. -/
def orderPlacesSpec : ChangeSpec := { name := "orderPlaces", fn := fun _ => fun
  | [d] => { results := [.lit (.bool true)], args := [d] }
  | _ => none }
def orderPlacesRow : OpenClaim := { program := "ytkofdbccdfpllaadoor", sum := "75a0a4d7f60d56335da6e1745cad9e5392aeb5b1ab418c640c0120cd6d2b2ecc", func := "omnibus/omnibuslaw10.OrderPlaces", spec := "orderPlaces", unfollowed := true, recurses := true, named := ["omnibus/frame.longer"], apart := false, laid := [("omnibus/frame.longer", laid_omnibus_frame_longer)] }
def OrderPlacesSaid : Prop := orderPlacesRow.holds Tryd.pinned (OpenSpec.ofChange orderPlacesSpec)

/-- ITS FALSE NEIGHBOUR: 'it returns false'. Refute it at one input. -/
def orderPlacesWrong : ChangeSpec := { name := "orderPlaces", fn := fun _ => fun
  | [d] => { results := [.lit (.bool false)], args := [d] }
  | _ => none }
def OrderPlacesWrongFalsely : Prop := orderPlacesRow.holds Tryd.pinned (OpenSpec.ofChange orderPlacesWrong)

/- THE SECOND FORM. 'bulk': how many values and letters a reading holds, each counted each time it is reached (what is shared counts as often as it is met; a slice's spare places count too). A statement '..UptoSaid' is the law's where the arguments, and the package variables that the reading takes, are together of bulk at most 1048576: NARROWER than '..Said'. Prove '..Said' where nothing that the law and all that it calls make is longer than what came in: it says more and counts as full. Else prove '..UptoSaid'. A law counts once. -/
mutual
def uptoBulk {H : Type} : DataW H → Nat
  | .lit (.string bytes) => bytes.length + 1
  | .lit _ => 1
  | .nil => 1
  | .ptr d => uptoBulk d + 1
  | .slice elems spare => uptoBulkAll elems + uptoBulkAll spare + 1
  | .agg parts => uptoBulkAll parts + 1
  | .iface _ d => uptoBulk d + 1
  | .map entries => uptoBulkEntries entries + 1
  | .held _ => 1
def uptoBulkAll {H : Type} : List (DataW H) → Nat
  | [] => 0
  | d :: r => uptoBulk d + uptoBulkAll r
def uptoBulkEntries {H : Type} : List (Lit × DataW H) → Nat
  | [] => 0
  | x :: r => uptoBulkEntry x + uptoBulkEntries r
def uptoBulkEntry {H : Type} : Lit × DataW H → Nat
  | (.string bytes, d) => bytes.length + uptoBulk d + 1
  | (_, d) => uptoBulk d + 1
 end
def uptoSmall : (H : Type) → List (DataW H) → Bool := fun _ ds => decide (uptoBulkAll ds ≤ 1048576)
def OpenSpec.upto (s : _root_.Go.ChangeSpec) : _root_.Go.OpenSpec := { _root_.Go.OpenSpec.ofChange s with cond := some uptoSmall }

/-- 'omnibuslaw10.OrderRanks', WHERE WHAT IT READS IS OF BULK AT MOST 1048576: true; the input reads as it did. -/
def orderRanksUptoRow : OpenClaim := { program := "ytkofdbccdfpllaadoor", sum := "75a0a4d7f60d56335da6e1745cad9e5392aeb5b1ab418c640c0120cd6d2b2ecc", func := "omnibus/omnibuslaw10.OrderRanks", spec := "orderRanks", unfollowed := true, recurses := true, named := ["omnibus/frame.longer"], apart := false, laid := [("omnibus/frame.longer", laid_omnibus_frame_longer)], narrowed := true }
def OrderRanksUptoSaid : Prop := orderRanksUptoRow.holds Tryd.pinned (OpenSpec.upto orderRanksSpec)

/-- 'omnibuslaw10.OrderPlaces', WHERE WHAT IT READS IS OF BULK AT MOST 1048576: true; the input reads as it did. -/
def orderPlacesUptoRow : OpenClaim := { program := "ytkofdbccdfpllaadoor", sum := "75a0a4d7f60d56335da6e1745cad9e5392aeb5b1ab418c640c0120cd6d2b2ecc", func := "omnibus/omnibuslaw10.OrderPlaces", spec := "orderPlaces", unfollowed := true, recurses := true, named := ["omnibus/frame.longer"], apart := false, laid := [("omnibus/frame.longer", laid_omnibus_frame_longer)], narrowed := true }
def OrderPlacesUptoSaid : Prop := orderPlacesUptoRow.holds Tryd.pinned (OpenSpec.upto orderPlacesSpec)

end Rows
end Go.Proofs.YtkofdbccdfpllaaDoor
