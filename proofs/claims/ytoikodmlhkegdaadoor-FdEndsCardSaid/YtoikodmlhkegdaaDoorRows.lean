/-
  NARROWER THAN 'FOR EVERY INPUT', by the rows' own cells (each row's printed sentence says how): ClassicWires: laid · ClassicEnds: laid · ClassicRuns: laid · ClassicOrders: laid · ClassicApart: laid · ClassicSizes: laid · FdWires: laid · FdEnds: laid · FdRuns: laid · FdOrders: laid · FdApart: laid · FdSizes: laid.
  DERIVED. THE GIVEN ROWS OF THIS SEAT. 12 by the template 'for every input the law returns true; each argument reads behind the call as it read before'; 0 by the template 'total and deterministic' (their statements: YtoikodmlhkegdaaDoorTotals.lean).
  GIVEN WITH THE SEED: the statements are not yours to turn. If you find one false, say at which input.
  Laid BY PROGRAM, IN A SANDBOX (cutbox-rows.mjs): the forced cells as the released guide's own fill.sh prints them over the translation c82aabf076af463d… (all of the seat's roots in one cut). By AI agents, Wed Nov 11 2026. No macro, syntax, notation, axiom, sorry.
-/
import Derived.Test.YtoikodmlhkegdaaDoorChecked
import GoSem.Claim
import GoSem.ClaimJoined
import GoSem.ClaimMapViews
import Derived.JoinedTies
import Derived.KernelRfl
namespace Go.Proofs.YtoikodmlhkegdaaDoor
/- THE CELL 'sum', in the pinned program and in every row, IS THE sha256 OF THE DUMP (.gsa) THAT YtoikodmlhkegdaaDoorProg.lean LOADS. Nothing in Lean hashes anything: it is a label: what it is worth is what the hold of that sum in a sandbox is worth. -/
noncomputable def Tryd.pinned : Pinned := { name := "ytoikodmlhkegdaadoor", sum := "c82aabf076af463d67a06df5b4eec59bc70ab16bd37c35a98976f57ef185cd39", checked := Tryd.checked }
namespace Rows
def none {H : Type} : Left H := { results := [], args := [] }

/- WHAT THE LISTED PACKAGE-LEVEL VARIABLES READ AS WHEN THE CALL BEGINS. Each datum BY PROGRAM (the guide's laid-datum.mjs) off the statement by which the dump's own 'gosem.cut.vars' lays the variable. In a bare row this is a premise. The card (YtoikodmlhkegdaaDoorCards.lean) ties it to the program's text. -/
def laid_omnibus_crc_kinds {H : Type} : DataW H := .agg [.agg [.lit (.int .i64 0), .lit (.int .u64 0), .lit (.int .u64 0)], .agg [.lit (.int .i64 15), .lit (.int .u64 17817), .lit (.int .u64 0)], .agg [.lit (.int .i64 17), .lit (.int .u64 92251), .lit (.int .u64 65536)], .agg [.lit (.int .i64 21), .lit (.int .u64 1058969), .lit (.int .u64 1048576)], .agg [.lit (.int .i64 13), .lit (.int .u64 6631), .lit (.int .u64 1)], .agg [.lit (.int .i64 32), .lit (.int .u64 4104977171), .lit (.int .u64 1)]]
def laid_omnibus_frame_longer {H : Type} : DataW H := .agg [.lit (.int .i64 12), .lit (.int .i64 16), .lit (.int .i64 20), .lit (.int .i64 24), .lit (.int .i64 32), .lit (.int .i64 48), .lit (.int .i64 64)]

/-- 'omnibuslaw06.ClassicWires': WHATEVER THE INPUT: true; the input reads as it did. -/
def classicWiresSpec : ChangeSpec := { name := "classicWires", fn := fun _ => fun
  | [d1, d2] => { results := [.lit (.bool true)], args := [d1, d2] }
  | _ => none }
def classicWiresRow : OpenClaim := { program := "ytoikodmlhkegdaadoor", sum := "c82aabf076af463d67a06df5b4eec59bc70ab16bd37c35a98976f57ef185cd39", func := "omnibus/omnibuslaw06.ClassicWires", spec := "classicWires", unfollowed := true, recurses := true, named := ["omnibus/frame.longer", "omnibus/crc.kinds"], apart := false, laid := [("omnibus/crc.kinds", laid_omnibus_crc_kinds), ("omnibus/frame.longer", laid_omnibus_frame_longer)] }
def ClassicWiresSaid : Prop := classicWiresRow.holds Tryd.pinned (OpenSpec.ofChange classicWiresSpec)

/-- ITS FALSE NEIGHBOUR: 'it returns false'. Refute it at one input. -/
def classicWiresWrong : ChangeSpec := { name := "classicWires", fn := fun _ => fun
  | [d1, d2] => { results := [.lit (.bool false)], args := [d1, d2] }
  | _ => none }
def ClassicWiresWrongFalsely : Prop := classicWiresRow.holds Tryd.pinned (OpenSpec.ofChange classicWiresWrong)

/-- 'omnibuslaw06.ClassicEnds': WHATEVER THE INPUT: true; the input reads as it did. -/
def classicEndsSpec : ChangeSpec := { name := "classicEnds", fn := fun _ => fun
  | [d] => { results := [.lit (.bool true)], args := [d] }
  | _ => none }
def classicEndsRow : OpenClaim := { program := "ytoikodmlhkegdaadoor", sum := "c82aabf076af463d67a06df5b4eec59bc70ab16bd37c35a98976f57ef185cd39", func := "omnibus/omnibuslaw06.ClassicEnds", spec := "classicEnds", unfollowed := true, recurses := true, named := ["omnibus/frame.longer", "omnibus/crc.kinds"], apart := false, laid := [("omnibus/crc.kinds", laid_omnibus_crc_kinds), ("omnibus/frame.longer", laid_omnibus_frame_longer)] }
def ClassicEndsSaid : Prop := classicEndsRow.holds Tryd.pinned (OpenSpec.ofChange classicEndsSpec)

/-- ITS FALSE NEIGHBOUR: 'it returns false'. Refute it at one input. -/
def classicEndsWrong : ChangeSpec := { name := "classicEnds", fn := fun _ => fun
  | [d] => { results := [.lit (.bool false)], args := [d] }
  | _ => none }
def ClassicEndsWrongFalsely : Prop := classicEndsRow.holds Tryd.pinned (OpenSpec.ofChange classicEndsWrong)

/-- 'omnibuslaw06.ClassicRuns': WHATEVER THE INPUT: true; the input reads as it did. -/
def classicRunsSpec : ChangeSpec := { name := "classicRuns", fn := fun _ => fun
  | [d] => { results := [.lit (.bool true)], args := [d] }
  | _ => none }
def classicRunsRow : OpenClaim := { program := "ytoikodmlhkegdaadoor", sum := "c82aabf076af463d67a06df5b4eec59bc70ab16bd37c35a98976f57ef185cd39", func := "omnibus/omnibuslaw06.ClassicRuns", spec := "classicRuns", unfollowed := true, recurses := true, named := ["omnibus/frame.longer", "omnibus/crc.kinds"], apart := false, laid := [("omnibus/crc.kinds", laid_omnibus_crc_kinds), ("omnibus/frame.longer", laid_omnibus_frame_longer)] }
def ClassicRunsSaid : Prop := classicRunsRow.holds Tryd.pinned (OpenSpec.ofChange classicRunsSpec)

/-- ITS FALSE NEIGHBOUR: 'it returns false'. Refute it at one input. -/
def classicRunsWrong : ChangeSpec := { name := "classicRuns", fn := fun _ => fun
  | [d] => { results := [.lit (.bool false)], args := [d] }
  | _ => none }
def ClassicRunsWrongFalsely : Prop := classicRunsRow.holds Tryd.pinned (OpenSpec.ofChange classicRunsWrong)

/-- 'omnibuslaw06.ClassicOrders': WHATEVER THE INPUT: true; the input reads as it did. -/
def classicOrdersSpec : ChangeSpec := { name := "classicOrders", fn := fun _ => fun
  | [d1, d2] => { results := [.lit (.bool true)], args := [d1, d2] }
  | _ => none }
def classicOrdersRow : OpenClaim := { program := "ytoikodmlhkegdaadoor", sum := "c82aabf076af463d67a06df5b4eec59bc70ab16bd37c35a98976f57ef185cd39", func := "omnibus/omnibuslaw06.ClassicOrders", spec := "classicOrders", unfollowed := true, recurses := true, named := ["omnibus/frame.longer", "omnibus/crc.kinds"], apart := false, laid := [("omnibus/crc.kinds", laid_omnibus_crc_kinds), ("omnibus/frame.longer", laid_omnibus_frame_longer)] }
def ClassicOrdersSaid : Prop := classicOrdersRow.holds Tryd.pinned (OpenSpec.ofChange classicOrdersSpec)

/-- ITS FALSE NEIGHBOUR: 'it returns false'. Refute it at one input. -/
def classicOrdersWrong : ChangeSpec := { name := "classicOrders", fn := fun _ => fun
  | [d1, d2] => { results := [.lit (.bool false)], args := [d1, d2] }
  | _ => none }
def ClassicOrdersWrongFalsely : Prop := classicOrdersRow.holds Tryd.pinned (OpenSpec.ofChange classicOrdersWrong)

/-- 'omnibuslaw06.ClassicApart': WHATEVER THE INPUT: true; the input reads as it did. -/
def classicApartSpec : ChangeSpec := { name := "classicApart", fn := fun _ => fun
  | [d1, d2] => { results := [.lit (.bool true)], args := [d1, d2] }
  | _ => none }
def classicApartRow : OpenClaim := { program := "ytoikodmlhkegdaadoor", sum := "c82aabf076af463d67a06df5b4eec59bc70ab16bd37c35a98976f57ef185cd39", func := "omnibus/omnibuslaw06.ClassicApart", spec := "classicApart", unfollowed := true, recurses := true, named := ["omnibus/frame.longer", "omnibus/crc.kinds"], apart := false, laid := [("omnibus/crc.kinds", laid_omnibus_crc_kinds), ("omnibus/frame.longer", laid_omnibus_frame_longer)] }
def ClassicApartSaid : Prop := classicApartRow.holds Tryd.pinned (OpenSpec.ofChange classicApartSpec)

/-- ITS FALSE NEIGHBOUR: 'it returns false'. Refute it at one input. -/
def classicApartWrong : ChangeSpec := { name := "classicApart", fn := fun _ => fun
  | [d1, d2] => { results := [.lit (.bool false)], args := [d1, d2] }
  | _ => none }
def ClassicApartWrongFalsely : Prop := classicApartRow.holds Tryd.pinned (OpenSpec.ofChange classicApartWrong)

/-- 'omnibuslaw06.ClassicSizes': WHATEVER THE INPUT: true; the input reads as it did. -/
def classicSizesSpec : ChangeSpec := { name := "classicSizes", fn := fun _ => fun
  | [d] => { results := [.lit (.bool true)], args := [d] }
  | _ => none }
def classicSizesRow : OpenClaim := { program := "ytoikodmlhkegdaadoor", sum := "c82aabf076af463d67a06df5b4eec59bc70ab16bd37c35a98976f57ef185cd39", func := "omnibus/omnibuslaw06.ClassicSizes", spec := "classicSizes", unfollowed := true, recurses := true, named := ["omnibus/frame.longer", "omnibus/crc.kinds"], apart := false, laid := [("omnibus/crc.kinds", laid_omnibus_crc_kinds), ("omnibus/frame.longer", laid_omnibus_frame_longer)] }
def ClassicSizesSaid : Prop := classicSizesRow.holds Tryd.pinned (OpenSpec.ofChange classicSizesSpec)

/-- ITS FALSE NEIGHBOUR: 'it returns false'. Refute it at one input. -/
def classicSizesWrong : ChangeSpec := { name := "classicSizes", fn := fun _ => fun
  | [d] => { results := [.lit (.bool false)], args := [d] }
  | _ => none }
def ClassicSizesWrongFalsely : Prop := classicSizesRow.holds Tryd.pinned (OpenSpec.ofChange classicSizesWrong)

/-- 'omnibuslaw07.FdWires': WHATEVER THE INPUT: true; the input reads as it did. -/
def fdWiresSpec : ChangeSpec := { name := "fdWires", fn := fun _ => fun
  | [d1, d2] => { results := [.lit (.bool true)], args := [d1, d2] }
  | _ => none }
def fdWiresRow : OpenClaim := { program := "ytoikodmlhkegdaadoor", sum := "c82aabf076af463d67a06df5b4eec59bc70ab16bd37c35a98976f57ef185cd39", func := "omnibus/omnibuslaw07.FdWires", spec := "fdWires", unfollowed := true, recurses := true, named := ["omnibus/frame.longer", "omnibus/crc.kinds"], apart := false, laid := [("omnibus/crc.kinds", laid_omnibus_crc_kinds), ("omnibus/frame.longer", laid_omnibus_frame_longer)] }
def FdWiresSaid : Prop := fdWiresRow.holds Tryd.pinned (OpenSpec.ofChange fdWiresSpec)

/-- ITS FALSE NEIGHBOUR: 'it returns false'. Refute it at one input. -/
def fdWiresWrong : ChangeSpec := { name := "fdWires", fn := fun _ => fun
  | [d1, d2] => { results := [.lit (.bool false)], args := [d1, d2] }
  | _ => none }
def FdWiresWrongFalsely : Prop := fdWiresRow.holds Tryd.pinned (OpenSpec.ofChange fdWiresWrong)

/-- 'omnibuslaw07.FdEnds': WHATEVER THE INPUT: true; the input reads as it did. -/
def fdEndsSpec : ChangeSpec := { name := "fdEnds", fn := fun _ => fun
  | [d] => { results := [.lit (.bool true)], args := [d] }
  | _ => none }
def fdEndsRow : OpenClaim := { program := "ytoikodmlhkegdaadoor", sum := "c82aabf076af463d67a06df5b4eec59bc70ab16bd37c35a98976f57ef185cd39", func := "omnibus/omnibuslaw07.FdEnds", spec := "fdEnds", unfollowed := true, recurses := true, named := ["omnibus/frame.longer", "omnibus/crc.kinds"], apart := false, laid := [("omnibus/crc.kinds", laid_omnibus_crc_kinds), ("omnibus/frame.longer", laid_omnibus_frame_longer)] }
def FdEndsSaid : Prop := fdEndsRow.holds Tryd.pinned (OpenSpec.ofChange fdEndsSpec)

/-- ITS FALSE NEIGHBOUR: 'it returns false'. Refute it at one input. -/
def fdEndsWrong : ChangeSpec := { name := "fdEnds", fn := fun _ => fun
  | [d] => { results := [.lit (.bool false)], args := [d] }
  | _ => none }
def FdEndsWrongFalsely : Prop := fdEndsRow.holds Tryd.pinned (OpenSpec.ofChange fdEndsWrong)

/-- 'omnibuslaw07.FdRuns': WHATEVER THE INPUT: true; the input reads as it did. -/
def fdRunsSpec : ChangeSpec := { name := "fdRuns", fn := fun _ => fun
  | [d] => { results := [.lit (.bool true)], args := [d] }
  | _ => none }
def fdRunsRow : OpenClaim := { program := "ytoikodmlhkegdaadoor", sum := "c82aabf076af463d67a06df5b4eec59bc70ab16bd37c35a98976f57ef185cd39", func := "omnibus/omnibuslaw07.FdRuns", spec := "fdRuns", unfollowed := true, recurses := true, named := ["omnibus/frame.longer", "omnibus/crc.kinds"], apart := false, laid := [("omnibus/crc.kinds", laid_omnibus_crc_kinds), ("omnibus/frame.longer", laid_omnibus_frame_longer)] }
def FdRunsSaid : Prop := fdRunsRow.holds Tryd.pinned (OpenSpec.ofChange fdRunsSpec)

/-- ITS FALSE NEIGHBOUR: 'it returns false'. Refute it at one input. -/
def fdRunsWrong : ChangeSpec := { name := "fdRuns", fn := fun _ => fun
  | [d] => { results := [.lit (.bool false)], args := [d] }
  | _ => none }
def FdRunsWrongFalsely : Prop := fdRunsRow.holds Tryd.pinned (OpenSpec.ofChange fdRunsWrong)

/-- 'omnibuslaw07.FdOrders': WHATEVER THE INPUT: true; the input reads as it did. -/
def fdOrdersSpec : ChangeSpec := { name := "fdOrders", fn := fun _ => fun
  | [d1, d2] => { results := [.lit (.bool true)], args := [d1, d2] }
  | _ => none }
def fdOrdersRow : OpenClaim := { program := "ytoikodmlhkegdaadoor", sum := "c82aabf076af463d67a06df5b4eec59bc70ab16bd37c35a98976f57ef185cd39", func := "omnibus/omnibuslaw07.FdOrders", spec := "fdOrders", unfollowed := true, recurses := true, named := ["omnibus/frame.longer", "omnibus/crc.kinds"], apart := false, laid := [("omnibus/crc.kinds", laid_omnibus_crc_kinds), ("omnibus/frame.longer", laid_omnibus_frame_longer)] }
def FdOrdersSaid : Prop := fdOrdersRow.holds Tryd.pinned (OpenSpec.ofChange fdOrdersSpec)

/-- ITS FALSE NEIGHBOUR: 'it returns false'. Refute it at one input. -/
def fdOrdersWrong : ChangeSpec := { name := "fdOrders", fn := fun _ => fun
  | [d1, d2] => { results := [.lit (.bool false)], args := [d1, d2] }
  | _ => none }
def FdOrdersWrongFalsely : Prop := fdOrdersRow.holds Tryd.pinned (OpenSpec.ofChange fdOrdersWrong)

/-- 'omnibuslaw07.FdApart': WHATEVER THE INPUT: true; the input reads as it did. -/
def fdApartSpec : ChangeSpec := { name := "fdApart", fn := fun _ => fun
  | [d1, d2] => { results := [.lit (.bool true)], args := [d1, d2] }
  | _ => none }
def fdApartRow : OpenClaim := { program := "ytoikodmlhkegdaadoor", sum := "c82aabf076af463d67a06df5b4eec59bc70ab16bd37c35a98976f57ef185cd39", func := "omnibus/omnibuslaw07.FdApart", spec := "fdApart", unfollowed := true, recurses := true, named := ["omnibus/frame.longer", "omnibus/crc.kinds"], apart := false, laid := [("omnibus/crc.kinds", laid_omnibus_crc_kinds), ("omnibus/frame.longer", laid_omnibus_frame_longer)] }
def FdApartSaid : Prop := fdApartRow.holds Tryd.pinned (OpenSpec.ofChange fdApartSpec)

/-- ITS FALSE NEIGHBOUR: 'it returns false'. Refute it at one input. -/
def fdApartWrong : ChangeSpec := { name := "fdApart", fn := fun _ => fun
  | [d1, d2] => { results := [.lit (.bool false)], args := [d1, d2] }
  | _ => none }
def FdApartWrongFalsely : Prop := fdApartRow.holds Tryd.pinned (OpenSpec.ofChange fdApartWrong)

/-- 'omnibuslaw07.FdSizes': WHATEVER THE INPUT: true; the input reads as it did. -/
def fdSizesSpec : ChangeSpec := { name := "fdSizes", fn := fun _ => fun
  | [d] => { results := [.lit (.bool true)], args := [d] }
  | _ => none }
def fdSizesRow : OpenClaim := { program := "ytoikodmlhkegdaadoor", sum := "c82aabf076af463d67a06df5b4eec59bc70ab16bd37c35a98976f57ef185cd39", func := "omnibus/omnibuslaw07.FdSizes", spec := "fdSizes", unfollowed := true, recurses := true, named := ["omnibus/frame.longer", "omnibus/crc.kinds"], apart := false, laid := [("omnibus/crc.kinds", laid_omnibus_crc_kinds), ("omnibus/frame.longer", laid_omnibus_frame_longer)] }
def FdSizesSaid : Prop := fdSizesRow.holds Tryd.pinned (OpenSpec.ofChange fdSizesSpec)

/-- ITS FALSE NEIGHBOUR: 'it returns false'. Refute it at one input. -/
def fdSizesWrong : ChangeSpec := { name := "fdSizes", fn := fun _ => fun
  | [d] => { results := [.lit (.bool false)], args := [d] }
  | _ => none }
def FdSizesWrongFalsely : Prop := fdSizesRow.holds Tryd.pinned (OpenSpec.ofChange fdSizesWrong)

/- THE SECOND FORM. 'bulk': how many values and letters a reading holds, each counted each time it is reached (what is shared counts as often as it is met; a slice's spare places count too). A statement '..UptoSaid' is the law's where the arguments, and the package variables that the reading takes, are together of bulk at most 1048576: NARROWER than '..Said'. Prove '..Said' where nothing that the law and all that it calls make is longer than what came in: it says more and counts as full. Else prove '..UptoSaid'. A law counts once. -/
mutual
def uptoBulk {H : Type} : DataW H → Nat
  | .lit (.string bytes) => bytes.length + 1
  | .lit _ => 1
  | .nil => 1
  | .ptr d => uptoBulk d + 1
  | .slice elems spare => uptoBulkAll elems + uptoBulkAll spare + 1
  | .agg parts => uptoBulkAll parts + 1
  | .iface _ d => uptoBulk d + 1
  | .map entries => uptoBulkEntries entries + 1
  | .held _ => 1
def uptoBulkAll {H : Type} : List (DataW H) → Nat
  | [] => 0
  | d :: r => uptoBulk d + uptoBulkAll r
def uptoBulkEntries {H : Type} : List (Lit × DataW H) → Nat
  | [] => 0
  | x :: r => uptoBulkEntry x + uptoBulkEntries r
def uptoBulkEntry {H : Type} : Lit × DataW H → Nat
  | (.string bytes, d) => bytes.length + uptoBulk d + 1
  | (_, d) => uptoBulk d + 1
 end
def uptoSmall : (H : Type) → List (DataW H) → Bool := fun _ ds => decide (uptoBulkAll ds ≤ 1048576)
def OpenSpec.upto (s : _root_.Go.ChangeSpec) : _root_.Go.OpenSpec := { _root_.Go.OpenSpec.ofChange s with cond := some uptoSmall }

/-- 'omnibuslaw06.ClassicWires', WHERE WHAT IT READS IS OF BULK AT MOST 1048576: true; the input reads as it did. -/
def classicWiresUptoRow : OpenClaim := { program := "ytoikodmlhkegdaadoor", sum := "c82aabf076af463d67a06df5b4eec59bc70ab16bd37c35a98976f57ef185cd39", func := "omnibus/omnibuslaw06.ClassicWires", spec := "classicWires", unfollowed := true, recurses := true, named := ["omnibus/frame.longer", "omnibus/crc.kinds"], apart := false, laid := [("omnibus/crc.kinds", laid_omnibus_crc_kinds), ("omnibus/frame.longer", laid_omnibus_frame_longer)], narrowed := true }
def ClassicWiresUptoSaid : Prop := classicWiresUptoRow.holds Tryd.pinned (OpenSpec.upto classicWiresSpec)

/-- 'omnibuslaw06.ClassicEnds', WHERE WHAT IT READS IS OF BULK AT MOST 1048576: true; the input reads as it did. -/
def classicEndsUptoRow : OpenClaim := { program := "ytoikodmlhkegdaadoor", sum := "c82aabf076af463d67a06df5b4eec59bc70ab16bd37c35a98976f57ef185cd39", func := "omnibus/omnibuslaw06.ClassicEnds", spec := "classicEnds", unfollowed := true, recurses := true, named := ["omnibus/frame.longer", "omnibus/crc.kinds"], apart := false, laid := [("omnibus/crc.kinds", laid_omnibus_crc_kinds), ("omnibus/frame.longer", laid_omnibus_frame_longer)], narrowed := true }
def ClassicEndsUptoSaid : Prop := classicEndsUptoRow.holds Tryd.pinned (OpenSpec.upto classicEndsSpec)

/-- 'omnibuslaw06.ClassicRuns', WHERE WHAT IT READS IS OF BULK AT MOST 1048576: true; the input reads as it did. -/
def classicRunsUptoRow : OpenClaim := { program := "ytoikodmlhkegdaadoor", sum := "c82aabf076af463d67a06df5b4eec59bc70ab16bd37c35a98976f57ef185cd39", func := "omnibus/omnibuslaw06.ClassicRuns", spec := "classicRuns", unfollowed := true, recurses := true, named := ["omnibus/frame.longer", "omnibus/crc.kinds"], apart := false, laid := [("omnibus/crc.kinds", laid_omnibus_crc_kinds), ("omnibus/frame.longer", laid_omnibus_frame_longer)], narrowed := true }
def ClassicRunsUptoSaid : Prop := classicRunsUptoRow.holds Tryd.pinned (OpenSpec.upto classicRunsSpec)

/-- 'omnibuslaw06.ClassicOrders', WHERE WHAT IT READS IS OF BULK AT MOST 1048576: true; the input reads as it did. -/
def classicOrdersUptoRow : OpenClaim := { program := "ytoikodmlhkegdaadoor", sum := "c82aabf076af463d67a06df5b4eec59bc70ab16bd37c35a98976f57ef185cd39", func := "omnibus/omnibuslaw06.ClassicOrders", spec := "classicOrders", unfollowed := true, recurses := true, named := ["omnibus/frame.longer", "omnibus/crc.kinds"], apart := false, laid := [("omnibus/crc.kinds", laid_omnibus_crc_kinds), ("omnibus/frame.longer", laid_omnibus_frame_longer)], narrowed := true }
def ClassicOrdersUptoSaid : Prop := classicOrdersUptoRow.holds Tryd.pinned (OpenSpec.upto classicOrdersSpec)

/-- 'omnibuslaw06.ClassicApart', WHERE WHAT IT READS IS OF BULK AT MOST 1048576: true; the input reads as it did. -/
def classicApartUptoRow : OpenClaim := { program := "ytoikodmlhkegdaadoor", sum := "c82aabf076af463d67a06df5b4eec59bc70ab16bd37c35a98976f57ef185cd39", func := "omnibus/omnibuslaw06.ClassicApart", spec := "classicApart", unfollowed := true, recurses := true, named := ["omnibus/frame.longer", "omnibus/crc.kinds"], apart := false, laid := [("omnibus/crc.kinds", laid_omnibus_crc_kinds), ("omnibus/frame.longer", laid_omnibus_frame_longer)], narrowed := true }
def ClassicApartUptoSaid : Prop := classicApartUptoRow.holds Tryd.pinned (OpenSpec.upto classicApartSpec)

/-- 'omnibuslaw06.ClassicSizes', WHERE WHAT IT READS IS OF BULK AT MOST 1048576: true; the input reads as it did. -/
def classicSizesUptoRow : OpenClaim := { program := "ytoikodmlhkegdaadoor", sum := "c82aabf076af463d67a06df5b4eec59bc70ab16bd37c35a98976f57ef185cd39", func := "omnibus/omnibuslaw06.ClassicSizes", spec := "classicSizes", unfollowed := true, recurses := true, named := ["omnibus/frame.longer", "omnibus/crc.kinds"], apart := false, laid := [("omnibus/crc.kinds", laid_omnibus_crc_kinds), ("omnibus/frame.longer", laid_omnibus_frame_longer)], narrowed := true }
def ClassicSizesUptoSaid : Prop := classicSizesUptoRow.holds Tryd.pinned (OpenSpec.upto classicSizesSpec)

/-- 'omnibuslaw07.FdWires', WHERE WHAT IT READS IS OF BULK AT MOST 1048576: true; the input reads as it did. -/
def fdWiresUptoRow : OpenClaim := { program := "ytoikodmlhkegdaadoor", sum := "c82aabf076af463d67a06df5b4eec59bc70ab16bd37c35a98976f57ef185cd39", func := "omnibus/omnibuslaw07.FdWires", spec := "fdWires", unfollowed := true, recurses := true, named := ["omnibus/frame.longer", "omnibus/crc.kinds"], apart := false, laid := [("omnibus/crc.kinds", laid_omnibus_crc_kinds), ("omnibus/frame.longer", laid_omnibus_frame_longer)], narrowed := true }
def FdWiresUptoSaid : Prop := fdWiresUptoRow.holds Tryd.pinned (OpenSpec.upto fdWiresSpec)

/-- 'omnibuslaw07.FdEnds', WHERE WHAT IT READS IS OF BULK AT MOST 1048576: true; the input reads as it did. -/
def fdEndsUptoRow : OpenClaim := { program := "ytoikodmlhkegdaadoor", sum := "c82aabf076af463d67a06df5b4eec59bc70ab16bd37c35a98976f57ef185cd39", func := "omnibus/omnibuslaw07.FdEnds", spec := "fdEnds", unfollowed := true, recurses := true, named := ["omnibus/frame.longer", "omnibus/crc.kinds"], apart := false, laid := [("omnibus/crc.kinds", laid_omnibus_crc_kinds), ("omnibus/frame.longer", laid_omnibus_frame_longer)], narrowed := true }
def FdEndsUptoSaid : Prop := fdEndsUptoRow.holds Tryd.pinned (OpenSpec.upto fdEndsSpec)

/-- 'omnibuslaw07.FdRuns', WHERE WHAT IT READS IS OF BULK AT MOST 1048576: true; the input reads as it did. -/
def fdRunsUptoRow : OpenClaim := { program := "ytoikodmlhkegdaadoor", sum := "c82aabf076af463d67a06df5b4eec59bc70ab16bd37c35a98976f57ef185cd39", func := "omnibus/omnibuslaw07.FdRuns", spec := "fdRuns", unfollowed := true, recurses := true, named := ["omnibus/frame.longer", "omnibus/crc.kinds"], apart := false, laid := [("omnibus/crc.kinds", laid_omnibus_crc_kinds), ("omnibus/frame.longer", laid_omnibus_frame_longer)], narrowed := true }
def FdRunsUptoSaid : Prop := fdRunsUptoRow.holds Tryd.pinned (OpenSpec.upto fdRunsSpec)

/-- 'omnibuslaw07.FdOrders', WHERE WHAT IT READS IS OF BULK AT MOST 1048576: true; the input reads as it did. -/
def fdOrdersUptoRow : OpenClaim := { program := "ytoikodmlhkegdaadoor", sum := "c82aabf076af463d67a06df5b4eec59bc70ab16bd37c35a98976f57ef185cd39", func := "omnibus/omnibuslaw07.FdOrders", spec := "fdOrders", unfollowed := true, recurses := true, named := ["omnibus/frame.longer", "omnibus/crc.kinds"], apart := false, laid := [("omnibus/crc.kinds", laid_omnibus_crc_kinds), ("omnibus/frame.longer", laid_omnibus_frame_longer)], narrowed := true }
def FdOrdersUptoSaid : Prop := fdOrdersUptoRow.holds Tryd.pinned (OpenSpec.upto fdOrdersSpec)

/-- 'omnibuslaw07.FdApart', WHERE WHAT IT READS IS OF BULK AT MOST 1048576: true; the input reads as it did. -/
def fdApartUptoRow : OpenClaim := { program := "ytoikodmlhkegdaadoor", sum := "c82aabf076af463d67a06df5b4eec59bc70ab16bd37c35a98976f57ef185cd39", func := "omnibus/omnibuslaw07.FdApart", spec := "fdApart", unfollowed := true, recurses := true, named := ["omnibus/frame.longer", "omnibus/crc.kinds"], apart := false, laid := [("omnibus/crc.kinds", laid_omnibus_crc_kinds), ("omnibus/frame.longer", laid_omnibus_frame_longer)], narrowed := true }
def FdApartUptoSaid : Prop := fdApartUptoRow.holds Tryd.pinned (OpenSpec.upto fdApartSpec)

/-- 'omnibuslaw07.FdSizes', WHERE WHAT IT READS IS OF BULK AT MOST 1048576: true; the input reads as it did. -/
def fdSizesUptoRow : OpenClaim := { program := "ytoikodmlhkegdaadoor", sum := "c82aabf076af463d67a06df5b4eec59bc70ab16bd37c35a98976f57ef185cd39", func := "omnibus/omnibuslaw07.FdSizes", spec := "fdSizes", unfollowed := true, recurses := true, named := ["omnibus/frame.longer", "omnibus/crc.kinds"], apart := false, laid := [("omnibus/crc.kinds", laid_omnibus_crc_kinds), ("omnibus/frame.longer", laid_omnibus_frame_longer)], narrowed := true }
def FdSizesUptoSaid : Prop := fdSizesUptoRow.holds Tryd.pinned (OpenSpec.upto fdSizesSpec)

end Rows
end Go.Proofs.YtoikodmlhkegdaaDoor
