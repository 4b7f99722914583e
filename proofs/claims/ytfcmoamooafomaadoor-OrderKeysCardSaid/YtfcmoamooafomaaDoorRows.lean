/-
  NARROWER THAN 'FOR EVERY INPUT', by the rows' own cells (each row's printed sentence says how): OrderKeys: laid · OrderRanks: laid · OrderWire: laid · OrderTurns: laid · OrderPlaces: laid · OrderData: laid.
  DERIVED. THE GIVEN ROWS OF THIS SEAT. 6 by the template 'for every input the law returns true; each argument reads behind the call as it read before'; 0 by the template 'total and deterministic' (their statements: YtfcmoamooafomaaDoorTotals.lean).
  GIVEN WITH THE SEED: the statements are not yours to turn. If you find one false, say at which input.
  Laid BY PROGRAM, IN A SANDBOX (cutbox-rows.mjs): the forced cells as the released guide's own fill.sh prints them over the translation 0d493c433c5de23e… (all of the seat's roots in one cut). By AI agents, Wed Nov 11 2026. No macro, syntax, notation, axiom, sorry.
-/
import Derived.Test.YtfcmoamooafomaaDoorChecked
import GoSem.Claim
import GoSem.ClaimJoined
import GoSem.ClaimMapViews
import Derived.JoinedTies
import Derived.KernelRfl
namespace Go.Proofs.YtfcmoamooafomaaDoor
/- THE CELL 'sum', in the pinned program and in every row, IS THE sha256 OF THE DUMP (.gsa) THAT YtfcmoamooafomaaDoorProg.lean LOADS. Nothing in Lean hashes anything: it is a label: what it is worth is what the hold of that sum in a sandbox is worth. -/
noncomputable def Tryd.pinned : Pinned := { name := "ytfcmoamooafomaadoor", sum := "0d493c433c5de23e9ebd0b241b680cf31557f5576b23051fb0cdd533e57b39c0", checked := Tryd.checked }
namespace Rows
def none {H : Type} : Left H := { results := [], args := [] }

/- WHAT THE LISTED PACKAGE-LEVEL VARIABLES READ AS WHEN THE CALL BEGINS. Each datum BY PROGRAM (the guide's laid-datum.mjs) off the statement by which the dump's own 'gosem.cut.vars' lays the variable. In a bare row this is a premise. The card (YtfcmoamooafomaaDoorCards.lean) ties it to the program's text. -/
def laid_omnibus_frame_longer {H : Type} : DataW H := .agg [.lit (.int .i64 12), .lit (.int .i64 16), .lit (.int .i64 20), .lit (.int .i64 24), .lit (.int .i64 32), .lit (.int .i64 48), .lit (.int .i64 64)]
def laid_omnibus_crc_kinds {H : Type} : DataW H := .agg [.agg [.lit (.int .i64 0), .lit (.int .u64 0), .lit (.int .u64 0)], .agg [.lit (.int .i64 15), .lit (.int .u64 17817), .lit (.int .u64 0)], .agg [.lit (.int .i64 17), .lit (.int .u64 92251), .lit (.int .u64 65536)], .agg [.lit (.int .i64 21), .lit (.int .u64 1058969), .lit (.int .u64 1048576)], .agg [.lit (.int .i64 13), .lit (.int .u64 6631), .lit (.int .u64 1)], .agg [.lit (.int .i64 32), .lit (.int .u64 4104977171), .lit (.int .u64 1)]]

/-- 'omnibuslaw10.OrderKeys': WHATEVER THE INPUT: true; the input reads as it did. -/
def orderKeysSpec : ChangeSpec := { name := "orderKeys", fn := fun _ => fun
  | [d1, d2] => { results := [.lit (.bool true)], args := [d1, d2] }
  | _ => none }
def orderKeysRow : OpenClaim := { program := "ytfcmoamooafomaadoor", sum := "0d493c433c5de23e9ebd0b241b680cf31557f5576b23051fb0cdd533e57b39c0", func := "omnibus/omnibuslaw10.OrderKeys", spec := "orderKeys", unfollowed := true, recurses := true, named := ["omnibus/frame.longer"], apart := false, laid := [("omnibus/frame.longer", laid_omnibus_frame_longer)] }
def OrderKeysSaid : Prop := orderKeysRow.holds Tryd.pinned (OpenSpec.ofChange orderKeysSpec)

/-- ITS FALSE NEIGHBOUR: 'it returns false'. Refute it at one input. -/
def orderKeysWrong : ChangeSpec := { name := "orderKeys", fn := fun _ => fun
  | [d1, d2] => { results := [.lit (.bool false)], args := [d1, d2] }
  | _ => none }
def OrderKeysWrongFalsely : Prop := orderKeysRow.holds Tryd.pinned (OpenSpec.ofChange orderKeysWrong)

/-- 'omnibuslaw10.OrderRanks': WHATEVER THE INPUT: true; the input reads as it did. -/
def orderRanksSpec : ChangeSpec := { name := "orderRanks", fn := fun _ => fun
  | [d] => { results := [.lit (.bool true)], args := [d] }
  | _ => none }
def orderRanksRow : OpenClaim := { program := "ytfcmoamooafomaadoor", sum := "0d493c433c5de23e9ebd0b241b680cf31557f5576b23051fb0cdd533e57b39c0", func := "omnibus/omnibuslaw10.OrderRanks", spec := "orderRanks", unfollowed := true, recurses := true, named := ["omnibus/frame.longer"], apart := false, laid := [("omnibus/frame.longer", laid_omnibus_frame_longer)] }
def OrderRanksSaid : Prop := orderRanksRow.holds Tryd.pinned (OpenSpec.ofChange orderRanksSpec)

/-- ITS FALSE NEIGHBOUR: 'it returns false'. Refute it at one input. -/
def orderRanksWrong : ChangeSpec := { name := "orderRanks", fn := fun _ => fun
  | [d] => { results := [.lit (.bool false)], args := [d] }
  | _ => none }
def OrderRanksWrongFalsely : Prop := orderRanksRow.holds Tryd.pinned (OpenSpec.ofChange orderRanksWrong)

/-- 'omnibuslaw10.OrderWire': WHATEVER THE INPUT: true; the input reads as it did. -/
def orderWireSpec : ChangeSpec := { name := "orderWire", fn := fun _ => fun
  | [d1, d2] => { results := [.lit (.bool true)], args := [d1, d2] }
  | _ => none }
def orderWireRow : OpenClaim := { program := "ytfcmoamooafomaadoor", sum := "0d493c433c5de23e9ebd0b241b680cf31557f5576b23051fb0cdd533e57b39c0", func := "omnibus/omnibuslaw10.OrderWire", spec := "orderWire", unfollowed := true, recurses := true, named := ["omnibus/frame.longer", "omnibus/crc.kinds"], apart := false, laid := [("omnibus/crc.kinds", laid_omnibus_crc_kinds), ("omnibus/frame.longer", laid_omnibus_frame_longer)] }
def OrderWireSaid : Prop := orderWireRow.holds Tryd.pinned (OpenSpec.ofChange orderWireSpec)

/-- ITS FALSE NEIGHBOUR: 'it returns false'. Refute it at one input. -/
def orderWireWrong : ChangeSpec := { name := "orderWire", fn := fun _ => fun
  | [d1, d2] => { results := [.lit (.bool false)], args := [d1, d2] }
  | _ => none }
def OrderWireWrongFalsely : Prop := orderWireRow.holds Tryd.pinned (OpenSpec.ofChange orderWireWrong)

/-- 'omnibuslaw10.OrderTurns': WHATEVER THE INPUT: true; the input reads as it did. -/
def orderTurnsSpec : ChangeSpec := { name := "orderTurns", fn := fun _ => fun
  | [d1, d2, d3] => { results := [.lit (.bool true)], args := [d1, d2, d3] }
  | _ => none }
def orderTurnsRow : OpenClaim := { program := "ytfcmoamooafomaadoor", sum := "0d493c433c5de23e9ebd0b241b680cf31557f5576b23051fb0cdd533e57b39c0", func := "omnibus/omnibuslaw10.OrderTurns", spec := "orderTurns", unfollowed := true, recurses := true, named := ["omnibus/frame.longer"], apart := false, laid := [("omnibus/frame.longer", laid_omnibus_frame_longer)] }
def OrderTurnsSaid : Prop := orderTurnsRow.holds Tryd.pinned (OpenSpec.ofChange orderTurnsSpec)

/-- ITS FALSE NEIGHBOUR: 'it returns false'. Refute it at one input. -/
def orderTurnsWrong : ChangeSpec := { name := "orderTurns", fn := fun _ => fun
  | [d1, d2, d3] => { results := [.lit (.bool false)], args := [d1, d2, d3] }
  | _ => none }
def OrderTurnsWrongFalsely : Prop := orderTurnsRow.holds Tryd.pinned (OpenSpec.ofChange orderTurnsWrong)

/-- 'omnibuslaw10.OrderPlaces': WHATEVER THE INPUT: true; the input reads as it did. -/
def orderPlacesSpec : ChangeSpec := { name := "orderPlaces", fn := fun _ => fun
  | [d] => { results := [.lit (.bool true)], args := [d] }
  | _ => none }
def orderPlacesRow : OpenClaim := { program := "ytfcmoamooafomaadoor", sum := "0d493c433c5de23e9ebd0b241b680cf31557f5576b23051fb0cdd533e57b39c0", func := "omnibus/omnibuslaw10.OrderPlaces", spec := "orderPlaces", unfollowed := true, recurses := true, named := ["omnibus/frame.longer"], apart := false, laid := [("omnibus/frame.longer", laid_omnibus_frame_longer)] }
def OrderPlacesSaid : Prop := orderPlacesRow.holds Tryd.pinned (OpenSpec.ofChange orderPlacesSpec)

/-- ITS FALSE NEIGHBOUR: 'it returns false'. Refute it at one input. -/
def orderPlacesWrong : ChangeSpec := { name := "orderPlaces", fn := fun _ => fun
  | [d] => { results := [.lit (.bool false)], args := [d] }
  | _ => none }
def OrderPlacesWrongFalsely : Prop := orderPlacesRow.holds Tryd.pinned (OpenSpec.ofChange orderPlacesWrong)

/-- 'omnibuslaw10.OrderData': WHATEVER THE INPUT: true; the input reads as it did. -/
def orderDataSpec : ChangeSpec := { name := "orderData", fn := fun _ => fun
  | [d1, d2] => { results := [.lit (.bool true)], args := [d1, d2] }
  | _ => none }
def orderDataRow : OpenClaim := { program := "ytfcmoamooafomaadoor", sum := "0d493c433c5de23e9ebd0b241b680cf31557f5576b23051fb0cdd533e57b39c0", func := "omnibus/omnibuslaw10.OrderData", spec := "orderData", unfollowed := true, recurses := true, named := ["omnibus/frame.longer"], apart := false, laid := [("omnibus/frame.longer", laid_omnibus_frame_longer)] }
def OrderDataSaid : Prop := orderDataRow.holds Tryd.pinned (OpenSpec.ofChange orderDataSpec)

/-- ITS FALSE NEIGHBOUR: 'it returns false'. Refute it at one input. -/
def orderDataWrong : ChangeSpec := { name := "orderData", fn := fun _ => fun
  | [d1, d2] => { results := [.lit (.bool false)], args := [d1, d2] }
  | _ => none }
def OrderDataWrongFalsely : Prop := orderDataRow.holds Tryd.pinned (OpenSpec.ofChange orderDataWrong)

/- THE SECOND FORM. 'bulk': how many values and letters a reading holds, each counted each time it is reached (what is shared counts as often as it is met; a slice's spare places count too). A statement '..UptoSaid' is the law's where the arguments, and the package variables that the reading takes, are together of bulk at most 1048576: NARROWER than '..Said'. Prove '..Said' where nothing that the law and all that it calls make is longer than what came in: it says more and counts as full. Else prove '..UptoSaid'. A law counts once. -/
mutual
def uptoBulk {H : Type} : DataW H → Nat
  | .lit (.string bytes) => bytes.length + 1
  | .lit _ => 1
  | .nil => 1
  | .ptr d => uptoBulk d + 1
  | .slice elems spare => uptoBulkAll elems + uptoBulkAll spare + 1
  | .agg parts => uptoBulkAll parts + 1
  | .iface _ d => uptoBulk d + 1
  | .map entries => uptoBulkEntries entries + 1
  | .held _ => 1
def uptoBulkAll {H : Type} : List (DataW H) → Nat
  | [] => 0
  | d :: r => uptoBulk d + uptoBulkAll r
def uptoBulkEntries {H : Type} : List (Lit × DataW H) → Nat
  | [] => 0
  | x :: r => uptoBulkEntry x + uptoBulkEntries r
def uptoBulkEntry {H : Type} : Lit × DataW H → Nat
  | (.string bytes, d) => bytes.length + uptoBulk d + 1
  | (_, d) => uptoBulk d + 1
 end
def uptoSmall : (H : Type) → List (DataW H) → Bool := fun _ ds => decide (uptoBulkAll ds ≤ 1048576)
def OpenSpec.upto (s : _root_.Go.ChangeSpec) : _root_.Go.OpenSpec := { _root_.Go.OpenSpec.ofChange s with cond := some uptoSmall }

/-- 'omnibuslaw10.OrderKeys', WHERE WHAT IT READS IS OF BULK AT MOST 1048576: true; the input reads as it did. -/
def orderKeysUptoRow : OpenClaim := { program := "ytfcmoamooafomaadoor", sum := "0d493c433c5de23e9ebd0b241b680cf31557f5576b23051fb0cdd533e57b39c0", func := "omnibus/omnibuslaw10.OrderKeys", spec := "orderKeys", unfollowed := true, recurses := true, named := ["omnibus/frame.longer"], apart := false, laid := [("omnibus/frame.longer", laid_omnibus_frame_longer)], narrowed := true }
def OrderKeysUptoSaid : Prop := orderKeysUptoRow.holds Tryd.pinned (OpenSpec.upto orderKeysSpec)

/-- 'omnibuslaw10.OrderRanks', WHERE WHAT IT READS IS OF BULK AT MOST 1048576: true; the input reads as it did. -/
def orderRanksUptoRow : OpenClaim := { program := "ytfcmoamooafomaadoor", sum := "0d493c433c5de23e9ebd0b241b680cf31557f5576b23051fb0cdd533e57b39c0", func := "omnibus/omnibuslaw10.OrderRanks", spec := "orderRanks", unfollowed := true, recurses := true, named := ["omnibus/frame.longer"], apart := false, laid := [("omnibus/frame.longer", laid_omnibus_frame_longer)], narrowed := true }
def OrderRanksUptoSaid : Prop := orderRanksUptoRow.holds Tryd.pinned (OpenSpec.upto orderRanksSpec)

/-- 'omnibuslaw10.OrderWire', WHERE WHAT IT READS IS OF BULK AT MOST 1048576: true; the input reads as it did. -/
def orderWireUptoRow : OpenClaim := { program := "ytfcmoamooafomaadoor", sum := "0d493c433c5de23e9ebd0b241b680cf31557f5576b23051fb0cdd533e57b39c0", func := "omnibus/omnibuslaw10.OrderWire", spec := "orderWire", unfollowed := true, recurses := true, named := ["omnibus/frame.longer", "omnibus/crc.kinds"], apart := false, laid := [("omnibus/crc.kinds", laid_omnibus_crc_kinds), ("omnibus/frame.longer", laid_omnibus_frame_longer)], narrowed := true }
def OrderWireUptoSaid : Prop := orderWireUptoRow.holds Tryd.pinned (OpenSpec.upto orderWireSpec)

/-- 'omnibuslaw10.OrderTurns', WHERE WHAT IT READS IS OF BULK AT MOST 1048576: true; the input reads as it did. -/
def orderTurnsUptoRow : OpenClaim := { program := "ytfcmoamooafomaadoor", sum := "0d493c433c5de23e9ebd0b241b680cf31557f5576b23051fb0cdd533e57b39c0", func := "omnibus/omnibuslaw10.OrderTurns", spec := "orderTurns", unfollowed := true, recurses := true, named := ["omnibus/frame.longer"], apart := false, laid := [("omnibus/frame.longer", laid_omnibus_frame_longer)], narrowed := true }
def OrderTurnsUptoSaid : Prop := orderTurnsUptoRow.holds Tryd.pinned (OpenSpec.upto orderTurnsSpec)

/-- 'omnibuslaw10.OrderPlaces', WHERE WHAT IT READS IS OF BULK AT MOST 1048576: true; the input reads as it did. -/
def orderPlacesUptoRow : OpenClaim := { program := "ytfcmoamooafomaadoor", sum := "0d493c433c5de23e9ebd0b241b680cf31557f5576b23051fb0cdd533e57b39c0", func := "omnibus/omnibuslaw10.OrderPlaces", spec := "orderPlaces", unfollowed := true, recurses := true, named := ["omnibus/frame.longer"], apart := false, laid := [("omnibus/frame.longer", laid_omnibus_frame_longer)], narrowed := true }
def OrderPlacesUptoSaid : Prop := orderPlacesUptoRow.holds Tryd.pinned (OpenSpec.upto orderPlacesSpec)

/-- 'omnibuslaw10.OrderData', WHERE WHAT IT READS IS OF BULK AT MOST 1048576: true; the input reads as it did. -/
def orderDataUptoRow : OpenClaim := { program := "ytfcmoamooafomaadoor", sum := "0d493c433c5de23e9ebd0b241b680cf31557f5576b23051fb0cdd533e57b39c0", func := "omnibus/omnibuslaw10.OrderData", spec := "orderData", unfollowed := true, recurses := true, named := ["omnibus/frame.longer"], apart := false, laid := [("omnibus/frame.longer", laid_omnibus_frame_longer)], narrowed := true }
def OrderDataUptoSaid : Prop := orderDataUptoRow.holds Tryd.pinned (OpenSpec.upto orderDataSpec)

end Rows
end Go.Proofs.YtfcmoamooafomaaDoor
