/-
  NARROWER THAN 'FOR EVERY INPUT', by the rows' own cells (each row's printed sentence says how): QueueActs: laid · QueueOrders: laid · QueueCancels: laid · QueueRoom: laid · QueueOwn: laid · QueueMixes: laid.
  DERIVED. THE GIVEN ROWS OF THIS SEAT. 6 by the template 'for every input the law returns true; each argument reads behind the call as it read before'; 0 by the template 'total and deterministic' (their statements: YtdedoeeekcfkpaaDoorTotals.lean).
  GIVEN WITH THE SEED: the statements are not yours to turn. If you find one false, say at which input.
  Laid BY PROGRAM, IN A SANDBOX (cutbox-rows.mjs): the forced cells as the released guide's own fill.sh prints them over the translation 2dbd35621d98bf0e… (all of the seat's roots in one cut). By AI agents, Wed Nov 11 2026. No macro, syntax, notation, axiom, sorry.
-/
import Derived.Test.YtdedoeeekcfkpaaDoorChecked
import GoSem.Claim
import GoSem.ClaimJoined
import GoSem.ClaimMapViews
import Derived.JoinedTies
import Derived.KernelRfl
namespace Go.Proofs.YtdedoeeekcfkpaaDoor
/- THE CELL 'sum', in the pinned program and in every row, IS THE sha256 OF THE DUMP (.gsa) THAT YtdedoeeekcfkpaaDoorProg.lean LOADS. Nothing in Lean hashes anything: it is a label: what it is worth is what the hold of that sum in a sandbox is worth. -/
noncomputable def Tryd.pinned : Pinned := { name := "ytdedoeeekcfkpaadoor", sum := "2dbd35621d98bf0efa601910dd7e0e5ae3b08c5895f5eadfaa2a915679cde967", checked := Tryd.checked }
namespace Rows
def none {H : Type} : Left H := { results := [], args := [] }

/- WHAT THE LISTED PACKAGE-LEVEL VARIABLES READ AS WHEN THE CALL BEGINS. Each datum BY PROGRAM (the guide's laid-datum.mjs) off the statement by which the dump's own 'gosem.cut.vars' lays the variable. In a bare row this is a premise. The card (YtdedoeeekcfkpaaDoorCards.lean) ties it to the program's text. -/
def laid_omnibus_frame_longer {H : Type} : DataW H := .agg [.lit (.int .i64 12), .lit (.int .i64 16), .lit (.int .i64 20), .lit (.int .i64 24), .lit (.int .i64 32), .lit (.int .i64 48), .lit (.int .i64 64)]

/-- 'omnibuslaw14.QueueActs': WHATEVER THE INPUT: true; the input reads as it did. -/
def queueActsSpec : ChangeSpec := { name := "queueActs", fn := fun _ => fun
  | [d1, d2] => { results := [.lit (.bool true)], args := [d1, d2] }
  | _ => none }
def queueActsRow : OpenClaim := { program := "ytdedoeeekcfkpaadoor", sum := "2dbd35621d98bf0efa601910dd7e0e5ae3b08c5895f5eadfaa2a915679cde967", func := "omnibus/omnibuslaw14.QueueActs", spec := "queueActs", unfollowed := true, recurses := true, named := ["omnibus/frame.longer"], apart := false, laid := [("omnibus/frame.longer", laid_omnibus_frame_longer)] }
def QueueActsSaid : Prop := queueActsRow.holds Tryd.pinned (OpenSpec.ofChange queueActsSpec)

/-- ITS FALSE NEIGHBOUR: 'it returns false'. Refute it at one input. -/
def queueActsWrong : ChangeSpec := { name := "queueActs", fn := fun _ => fun
  | [d1, d2] => { results := [.lit (.bool false)], args := [d1, d2] }
  | _ => none }
def QueueActsWrongFalsely : Prop := queueActsRow.holds Tryd.pinned (OpenSpec.ofChange queueActsWrong)

/-- 'omnibuslaw14.QueueOrders': WHATEVER THE INPUT: true; the input reads as it did. -/
def queueOrdersSpec : ChangeSpec := { name := "queueOrders", fn := fun _ => fun
  | [d] => { results := [.lit (.bool true)], args := [d] }
  | _ => none }
def queueOrdersRow : OpenClaim := { program := "ytdedoeeekcfkpaadoor", sum := "2dbd35621d98bf0efa601910dd7e0e5ae3b08c5895f5eadfaa2a915679cde967", func := "omnibus/omnibuslaw14.QueueOrders", spec := "queueOrders", unfollowed := true, recurses := true, named := ["omnibus/frame.longer"], apart := false, laid := [("omnibus/frame.longer", laid_omnibus_frame_longer)] }
def QueueOrdersSaid : Prop := queueOrdersRow.holds Tryd.pinned (OpenSpec.ofChange queueOrdersSpec)

/-- ITS FALSE NEIGHBOUR: 'it returns false'. Refute it at one input. -/
def queueOrdersWrong : ChangeSpec := { name := "queueOrders", fn := fun _ => fun
  | [d] => { results := [.lit (.bool false)], args := [d] }
  | _ => none }
def QueueOrdersWrongFalsely : Prop := queueOrdersRow.holds Tryd.pinned (OpenSpec.ofChange queueOrdersWrong)

/-- 'omnibuslaw14.QueueCancels': WHATEVER THE INPUT: true; the input reads as it did. -/
def queueCancelsSpec : ChangeSpec := { name := "queueCancels", fn := fun _ => fun
  | [d1, d2] => { results := [.lit (.bool true)], args := [d1, d2] }
  | _ => none }
def queueCancelsRow : OpenClaim := { program := "ytdedoeeekcfkpaadoor", sum := "2dbd35621d98bf0efa601910dd7e0e5ae3b08c5895f5eadfaa2a915679cde967", func := "omnibus/omnibuslaw14.QueueCancels", spec := "queueCancels", unfollowed := true, recurses := true, named := ["omnibus/frame.longer"], apart := false, laid := [("omnibus/frame.longer", laid_omnibus_frame_longer)] }
def QueueCancelsSaid : Prop := queueCancelsRow.holds Tryd.pinned (OpenSpec.ofChange queueCancelsSpec)

/-- ITS FALSE NEIGHBOUR: 'it returns false'. Refute it at one input. -/
def queueCancelsWrong : ChangeSpec := { name := "queueCancels", fn := fun _ => fun
  | [d1, d2] => { results := [.lit (.bool false)], args := [d1, d2] }
  | _ => none }
def QueueCancelsWrongFalsely : Prop := queueCancelsRow.holds Tryd.pinned (OpenSpec.ofChange queueCancelsWrong)

/-- 'omnibuslaw14.QueueRoom': WHATEVER THE INPUT: true; the input reads as it did. -/
def queueRoomSpec : ChangeSpec := { name := "queueRoom", fn := fun _ => fun
  | [d1, d2] => { results := [.lit (.bool true)], args := [d1, d2] }
  | _ => none }
def queueRoomRow : OpenClaim := { program := "ytdedoeeekcfkpaadoor", sum := "2dbd35621d98bf0efa601910dd7e0e5ae3b08c5895f5eadfaa2a915679cde967", func := "omnibus/omnibuslaw14.QueueRoom", spec := "queueRoom", unfollowed := true, recurses := true, named := ["omnibus/frame.longer"], apart := false, laid := [("omnibus/frame.longer", laid_omnibus_frame_longer)] }
def QueueRoomSaid : Prop := queueRoomRow.holds Tryd.pinned (OpenSpec.ofChange queueRoomSpec)

/-- ITS FALSE NEIGHBOUR: 'it returns false'. Refute it at one input. -/
def queueRoomWrong : ChangeSpec := { name := "queueRoom", fn := fun _ => fun
  | [d1, d2] => { results := [.lit (.bool false)], args := [d1, d2] }
  | _ => none }
def QueueRoomWrongFalsely : Prop := queueRoomRow.holds Tryd.pinned (OpenSpec.ofChange queueRoomWrong)

/-- 'omnibuslaw14.QueueOwn': WHATEVER THE INPUT: true; the input reads as it did. -/
def queueOwnSpec : ChangeSpec := { name := "queueOwn", fn := fun _ => fun
  | [d] => { results := [.lit (.bool true)], args := [d] }
  | _ => none }
def queueOwnRow : OpenClaim := { program := "ytdedoeeekcfkpaadoor", sum := "2dbd35621d98bf0efa601910dd7e0e5ae3b08c5895f5eadfaa2a915679cde967", func := "omnibus/omnibuslaw14.QueueOwn", spec := "queueOwn", unfollowed := true, recurses := true, named := ["omnibus/frame.longer"], apart := false, laid := [("omnibus/frame.longer", laid_omnibus_frame_longer)] }
def QueueOwnSaid : Prop := queueOwnRow.holds Tryd.pinned (OpenSpec.ofChange queueOwnSpec)

/-- ITS FALSE NEIGHBOUR: 'it returns false'. Refute it at one input. -/
def queueOwnWrong : ChangeSpec := { name := "queueOwn", fn := fun _ => fun
  | [d] => { results := [.lit (.bool false)], args := [d] }
  | _ => none }
def QueueOwnWrongFalsely : Prop := queueOwnRow.holds Tryd.pinned (OpenSpec.ofChange queueOwnWrong)

/-- 'omnibuslaw14.QueueMixes': WHATEVER THE INPUT: true; the input reads as it did. -/
def queueMixesSpec : ChangeSpec := { name := "queueMixes", fn := fun _ => fun
  | [d1, d2] => { results := [.lit (.bool true)], args := [d1, d2] }
  | _ => none }
def queueMixesRow : OpenClaim := { program := "ytdedoeeekcfkpaadoor", sum := "2dbd35621d98bf0efa601910dd7e0e5ae3b08c5895f5eadfaa2a915679cde967", func := "omnibus/omnibuslaw14.QueueMixes", spec := "queueMixes", unfollowed := true, recurses := true, named := ["omnibus/frame.longer"], apart := false, laid := [("omnibus/frame.longer", laid_omnibus_frame_longer)] }
def QueueMixesSaid : Prop := queueMixesRow.holds Tryd.pinned (OpenSpec.ofChange queueMixesSpec)

/-- ITS FALSE NEIGHBOUR: 'it returns false'. Refute it at one input. -/
def queueMixesWrong : ChangeSpec := { name := "queueMixes", fn := fun _ => fun
  | [d1, d2] => { results := [.lit (.bool false)], args := [d1, d2] }
  | _ => none }
def QueueMixesWrongFalsely : Prop := queueMixesRow.holds Tryd.pinned (OpenSpec.ofChange queueMixesWrong)

/- THE SECOND FORM. 'bulk': how many values and letters a reading holds, each counted each time it is reached (what is shared counts as often as it is met; a slice's spare places count too). A statement '..UptoSaid' is the law's where the arguments, and the package variables that the reading takes, are together of bulk at most 1048576: NARROWER than '..Said'. Prove '..Said' where nothing that the law and all that it calls make is longer than what came in: it says more and counts as full. Else prove '..UptoSaid'. A law counts once. -/
mutual
def uptoBulk {H : Type} : DataW H → Nat
  | .lit (.string bytes) => bytes.length + 1
  | .lit _ => 1
  | .nil => 1
  | .ptr d => uptoBulk d + 1
  | .slice elems spare => uptoBulkAll elems + uptoBulkAll spare + 1
  | .agg parts => uptoBulkAll parts + 1
  | .iface _ d => uptoBulk d + 1
  | .map entries => uptoBulkEntries entries + 1
  | .held _ => 1
def uptoBulkAll {H : Type} : List (DataW H) → Nat
  | [] => 0
  | d :: r => uptoBulk d + uptoBulkAll r
def uptoBulkEntries {H : Type} : List (Lit × DataW H) → Nat
  | [] => 0
  | x :: r => uptoBulkEntry x + uptoBulkEntries r
def uptoBulkEntry {H : Type} : Lit × DataW H → Nat
  | (.string bytes, d) => bytes.length + uptoBulk d + 1
  | (_, d) => uptoBulk d + 1
 end
def uptoSmall : (H : Type) → List (DataW H) → Bool := fun _ ds => decide (uptoBulkAll ds ≤ 1048576)
def OpenSpec.upto (s : _root_.Go.ChangeSpec) : _root_.Go.OpenSpec := { _root_.Go.OpenSpec.ofChange s with cond := some uptoSmall }

/-- 'omnibuslaw14.QueueActs', WHERE WHAT IT READS IS OF BULK AT MOST 1048576: true; the input reads as it did. -/
def queueActsUptoRow : OpenClaim := { program := "ytdedoeeekcfkpaadoor", sum := "2dbd35621d98bf0efa601910dd7e0e5ae3b08c5895f5eadfaa2a915679cde967", func := "omnibus/omnibuslaw14.QueueActs", spec := "queueActs", unfollowed := true, recurses := true, named := ["omnibus/frame.longer"], apart := false, laid := [("omnibus/frame.longer", laid_omnibus_frame_longer)], narrowed := true }
def QueueActsUptoSaid : Prop := queueActsUptoRow.holds Tryd.pinned (OpenSpec.upto queueActsSpec)

/-- 'omnibuslaw14.QueueOrders', WHERE WHAT IT READS IS OF BULK AT MOST 1048576: true; the input reads as it did. -/
def queueOrdersUptoRow : OpenClaim := { program := "ytdedoeeekcfkpaadoor", sum := "2dbd35621d98bf0efa601910dd7e0e5ae3b08c5895f5eadfaa2a915679cde967", func := "omnibus/omnibuslaw14.QueueOrders", spec := "queueOrders", unfollowed := true, recurses := true, named := ["omnibus/frame.longer"], apart := false, laid := [("omnibus/frame.longer", laid_omnibus_frame_longer)], narrowed := true }
def QueueOrdersUptoSaid : Prop := queueOrdersUptoRow.holds Tryd.pinned (OpenSpec.upto queueOrdersSpec)

/-- 'omnibuslaw14.QueueCancels', WHERE WHAT IT READS IS OF BULK AT MOST 1048576: true; the input reads as it did. -/
def queueCancelsUptoRow : OpenClaim := { program := "ytdedoeeekcfkpaadoor", sum := "2dbd35621d98bf0efa601910dd7e0e5ae3b08c5895f5eadfaa2a915679cde967", func := "omnibus/omnibuslaw14.QueueCancels", spec := "queueCancels", unfollowed := true, recurses := true, named := ["omnibus/frame.longer"], apart := false, laid := [("omnibus/frame.longer", laid_omnibus_frame_longer)], narrowed := true }
def QueueCancelsUptoSaid : Prop := queueCancelsUptoRow.holds Tryd.pinned (OpenSpec.upto queueCancelsSpec)

/-- 'omnibuslaw14.QueueRoom', WHERE WHAT IT READS IS OF BULK AT MOST 1048576: true; the input reads as it did. -/
def queueRoomUptoRow : OpenClaim := { program := "ytdedoeeekcfkpaadoor", sum := "2dbd35621d98bf0efa601910dd7e0e5ae3b08c5895f5eadfaa2a915679cde967", func := "omnibus/omnibuslaw14.QueueRoom", spec := "queueRoom", unfollowed := true, recurses := true, named := ["omnibus/frame.longer"], apart := false, laid := [("omnibus/frame.longer", laid_omnibus_frame_longer)], narrowed := true }
def QueueRoomUptoSaid : Prop := queueRoomUptoRow.holds Tryd.pinned (OpenSpec.upto queueRoomSpec)

/-- 'omnibuslaw14.QueueOwn', WHERE WHAT IT READS IS OF BULK AT MOST 1048576: true; the input reads as it did. -/
def queueOwnUptoRow : OpenClaim := { program := "ytdedoeeekcfkpaadoor", sum := "2dbd35621d98bf0efa601910dd7e0e5ae3b08c5895f5eadfaa2a915679cde967", func := "omnibus/omnibuslaw14.QueueOwn", spec := "queueOwn", unfollowed := true, recurses := true, named := ["omnibus/frame.longer"], apart := false, laid := [("omnibus/frame.longer", laid_omnibus_frame_longer)], narrowed := true }
def QueueOwnUptoSaid : Prop := queueOwnUptoRow.holds Tryd.pinned (OpenSpec.upto queueOwnSpec)

/-- 'omnibuslaw14.QueueMixes', WHERE WHAT IT READS IS OF BULK AT MOST 1048576: true; the input reads as it did. -/
def queueMixesUptoRow : OpenClaim := { program := "ytdedoeeekcfkpaadoor", sum := "2dbd35621d98bf0efa601910dd7e0e5ae3b08c5895f5eadfaa2a915679cde967", func := "omnibus/omnibuslaw14.QueueMixes", spec := "queueMixes", unfollowed := true, recurses := true, named := ["omnibus/frame.longer"], apart := false, laid := [("omnibus/frame.longer", laid_omnibus_frame_longer)], narrowed := true }
def QueueMixesUptoSaid : Prop := queueMixesUptoRow.holds Tryd.pinned (OpenSpec.upto queueMixesSpec)

end Rows
end Go.Proofs.YtdedoeeekcfkpaaDoor
