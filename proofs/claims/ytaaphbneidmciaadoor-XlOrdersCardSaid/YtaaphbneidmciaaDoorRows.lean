/-
  NARROWER THAN 'FOR EVERY INPUT', by the rows' own cells (each row's printed sentence says how): XlWires: laid · XlEnds: laid · XlRuns: laid · XlOrders: laid · XlApart: laid · XlSizes: laid.
  DERIVED. THE GIVEN ROWS OF THIS SEAT. 6 by the template 'for every input the law returns true; each argument reads behind the call as it read before'; 0 by the template 'total and deterministic' (their statements: YtaaphbneidmciaaDoorTotals.lean).
  GIVEN WITH THE SEED: the statements are not yours to turn. If you find one false, say at which input.
  Laid BY PROGRAM, IN A SANDBOX (cutbox-rows.mjs): the forced cells as the released guide's own fill.sh prints them over the translation 4c5cfaf465ef3559… (all of the seat's roots in one cut). By AI agents, Wed Nov 11 2026. No macro, syntax, notation, axiom, sorry.
-/
import Derived.Test.YtaaphbneidmciaaDoorChecked
import GoSem.Claim
import GoSem.ClaimJoined
import GoSem.ClaimMapViews
import Derived.JoinedTies
import Derived.KernelRfl
namespace Go.Proofs.YtaaphbneidmciaaDoor
/- THE CELL 'sum', in the pinned program and in every row, IS THE sha256 OF THE DUMP (.gsa) THAT YtaaphbneidmciaaDoorProg.lean LOADS. Nothing in Lean hashes anything: it is a label: what it is worth is what the hold of that sum in a sandbox is worth. -/
noncomputable def Tryd.pinned : Pinned := { name := "ytaaphbneidmciaadoor", sum := "4c5cfaf465ef3559a9173d84e7bb5698894ad42953e6b3514cd7982ffa0ec2af", checked := Tryd.checked }
namespace Rows
def none {H : Type} : Left H := { results := [], args := [] }

/- WHAT THE LISTED PACKAGE-LEVEL VARIABLES READ AS WHEN THE CALL BEGINS. Each datum BY PROGRAM (the guide's laid-datum.mjs) off the statement by which the dump's own 'gosem.cut.vars' lays the variable. In a bare row this is a premise. The card (YtaaphbneidmciaaDoorCards.lean) ties it to the program's text. -/
def laid_omnibus_crc_kinds {H : Type} : DataW H := .agg [.agg [.lit (.int .i64 0), .lit (.int .u64 0), .lit (.int .u64 0)], .agg [.lit (.int .i64 15), .lit (.int .u64 17817), .lit (.int .u64 0)], .agg [.lit (.int .i64 17), .lit (.int .u64 92251), .lit (.int .u64 65536)], .agg [.lit (.int .i64 21), .lit (.int .u64 1058969), .lit (.int .u64 1048576)], .agg [.lit (.int .i64 13), .lit (.int .u64 6631), .lit (.int .u64 1)], .agg [.lit (.int .i64 32), .lit (.int .u64 4104977171), .lit (.int .u64 1)]]
def laid_omnibus_frame_longer {H : Type} : DataW H := .agg [.lit (.int .i64 12), .lit (.int .i64 16), .lit (.int .i64 20), .lit (.int .i64 24), .lit (.int .i64 32), .lit (.int .i64 48), .lit (.int .i64 64)]

/-- 'omnibuslaw08.XlWires': WHATEVER THE INPUT: true; the input reads as it did. -/
def xlWiresSpec : ChangeSpec := { name := "xlWires", fn := fun _ => fun
  | [d1, d2] => { results := [.lit (.bool true)], args := [d1, d2] }
  | _ => none }
def xlWiresRow : OpenClaim := { program := "ytaaphbneidmciaadoor", sum := "4c5cfaf465ef3559a9173d84e7bb5698894ad42953e6b3514cd7982ffa0ec2af", func := "omnibus/omnibuslaw08.XlWires", spec := "xlWires", unfollowed := true, recurses := true, named := ["omnibus/frame.longer", "omnibus/crc.kinds"], apart := false, laid := [("omnibus/crc.kinds", laid_omnibus_crc_kinds), ("omnibus/frame.longer", laid_omnibus_frame_longer)] }
def XlWiresSaid : Prop := xlWiresRow.holds Tryd.pinned (OpenSpec.ofChange xlWiresSpec)

/-- ITS FALSE NEIGHBOUR: 'it returns false'. Refute it at one input. -/
def xlWiresWrong : ChangeSpec := { name := "xlWires", fn := fun _ => fun
  | [d1, d2] => { results := [.lit (.bool false)], args := [d1, d2] }
  | _ => none }
def XlWiresWrongFalsely : Prop := xlWiresRow.holds Tryd.pinned (OpenSpec.ofChange xlWiresWrong)

/-- 'omnibuslaw08.XlEnds': WHATEVER THE INPUT: true; the input reads as it did. -/
def xlEndsSpec : ChangeSpec := { name := "xlEnds", fn := fun _ => fun
  | [d] => { results := [.lit (.bool true)], args := [d] }
  | _ => none }
def xlEndsRow : OpenClaim := { program := "ytaaphbneidmciaadoor", sum := "4c5cfaf465ef3559a9173d84e7bb5698894ad42953e6b3514cd7982ffa0ec2af", func := "omnibus/omnibuslaw08.XlEnds", spec := "xlEnds", unfollowed := true, recurses := true, named := ["omnibus/frame.longer", "omnibus/crc.kinds"], apart := false, laid := [("omnibus/crc.kinds", laid_omnibus_crc_kinds), ("omnibus/frame.longer", laid_omnibus_frame_longer)] }
def XlEndsSaid : Prop := xlEndsRow.holds Tryd.pinned (OpenSpec.ofChange xlEndsSpec)

/-- ITS FALSE NEIGHBOUR: 'it returns false'. Refute it at one input. -/
def xlEndsWrong : ChangeSpec := { name := "xlEnds", fn := fun _ => fun
  | [d] => { results := [.lit (.bool false)], args := [d] }
  | _ => none }
def XlEndsWrongFalsely : Prop := xlEndsRow.holds Tryd.pinned (OpenSpec.ofChange xlEndsWrong)

/-- 'omnibuslaw08.XlRuns': WHATEVER THE INPUT: true; the input reads as it did. -/
def xlRunsSpec : ChangeSpec := { name := "xlRuns", fn := fun _ => fun
  | [d] => { results := [.lit (.bool true)], args := [d] }
  | _ => none }
def xlRunsRow : OpenClaim := { program := "ytaaphbneidmciaadoor", sum := "4c5cfaf465ef3559a9173d84e7bb5698894ad42953e6b3514cd7982ffa0ec2af", func := "omnibus/omnibuslaw08.XlRuns", spec := "xlRuns", unfollowed := true, recurses := true, named := ["omnibus/frame.longer", "omnibus/crc.kinds"], apart := false, laid := [("omnibus/crc.kinds", laid_omnibus_crc_kinds), ("omnibus/frame.longer", laid_omnibus_frame_longer)] }
def XlRunsSaid : Prop := xlRunsRow.holds Tryd.pinned (OpenSpec.ofChange xlRunsSpec)

/-- ITS FALSE NEIGHBOUR: 'it returns false'. Refute it at one input. -/
def xlRunsWrong : ChangeSpec := { name := "xlRuns", fn := fun _ => fun
  | [d] => { results := [.lit (.bool false)], args := [d] }
  | _ => none }
def XlRunsWrongFalsely : Prop := xlRunsRow.holds Tryd.pinned (OpenSpec.ofChange xlRunsWrong)

/-- 'omnibuslaw08.XlOrders': WHATEVER THE INPUT: true; the input reads as it did. -/
def xlOrdersSpec : ChangeSpec := { name := "xlOrders", fn := fun _ => fun
  | [d1, d2] => { results := [.lit (.bool true)], args := [d1, d2] }
  | _ => none }
def xlOrdersRow : OpenClaim := { program := "ytaaphbneidmciaadoor", sum := "4c5cfaf465ef3559a9173d84e7bb5698894ad42953e6b3514cd7982ffa0ec2af", func := "omnibus/omnibuslaw08.XlOrders", spec := "xlOrders", unfollowed := true, recurses := true, named := ["omnibus/frame.longer", "omnibus/crc.kinds"], apart := false, laid := [("omnibus/crc.kinds", laid_omnibus_crc_kinds), ("omnibus/frame.longer", laid_omnibus_frame_longer)] }
def XlOrdersSaid : Prop := xlOrdersRow.holds Tryd.pinned (OpenSpec.ofChange xlOrdersSpec)

/-- ITS FALSE NEIGHBOUR: 'it returns false'. Refute it at one input. -/
def xlOrdersWrong : ChangeSpec := { name := "xlOrders", fn := fun _ => fun
  | [d1, d2] => { results := [.lit (.bool false)], args := [d1, d2] }
  | _ => none }
def XlOrdersWrongFalsely : Prop := xlOrdersRow.holds Tryd.pinned (OpenSpec.ofChange xlOrdersWrong)

/-- 'omnibuslaw08.XlApart': WHATEVER THE INPUT: true; the input reads as it did. -/
def xlApartSpec : ChangeSpec := { name := "xlApart", fn := fun _ => fun
  | [d1, d2] => { results := [.lit (.bool true)], args := [d1, d2] }
  | _ => none }
def xlApartRow : OpenClaim := { program := "ytaaphbneidmciaadoor", sum := "4c5cfaf465ef3559a9173d84e7bb5698894ad42953e6b3514cd7982ffa0ec2af", func := "omnibus/omnibuslaw08.XlApart", spec := "xlApart", unfollowed := true, recurses := true, named := ["omnibus/frame.longer", "omnibus/crc.kinds"], apart := false, laid := [("omnibus/crc.kinds", laid_omnibus_crc_kinds), ("omnibus/frame.longer", laid_omnibus_frame_longer)] }
def XlApartSaid : Prop := xlApartRow.holds Tryd.pinned (OpenSpec.ofChange xlApartSpec)

/-- ITS FALSE NEIGHBOUR: 'it returns false'. Refute it at one input. -/
def xlApartWrong : ChangeSpec := { name := "xlApart", fn := fun _ => fun
  | [d1, d2] => { results := [.lit (.bool false)], args := [d1, d2] }
  | _ => none }
def XlApartWrongFalsely : Prop := xlApartRow.holds Tryd.pinned (OpenSpec.ofChange xlApartWrong)

/-- 'omnibuslaw08.XlSizes': WHATEVER THE INPUT: true; the input reads as it did. -/
def xlSizesSpec : ChangeSpec := { name := "xlSizes", fn := fun _ => fun
  | [d] => { results := [.lit (.bool true)], args := [d] }
  | _ => none }
def xlSizesRow : OpenClaim := { program := "ytaaphbneidmciaadoor", sum := "4c5cfaf465ef3559a9173d84e7bb5698894ad42953e6b3514cd7982ffa0ec2af", func := "omnibus/omnibuslaw08.XlSizes", spec := "xlSizes", unfollowed := true, recurses := true, named := ["omnibus/frame.longer", "omnibus/crc.kinds"], apart := false, laid := [("omnibus/crc.kinds", laid_omnibus_crc_kinds), ("omnibus/frame.longer", laid_omnibus_frame_longer)] }
def XlSizesSaid : Prop := xlSizesRow.holds Tryd.pinned (OpenSpec.ofChange xlSizesSpec)

/-- ITS FALSE NEIGHBOUR: 'it returns false'. Refute it at one input. -/
def xlSizesWrong : ChangeSpec := { name := "xlSizes", fn := fun _ => fun
  | [d] => { results := [.lit (.bool false)], args := [d] }
  | _ => none }
def XlSizesWrongFalsely : Prop := xlSizesRow.holds Tryd.pinned (OpenSpec.ofChange xlSizesWrong)

/- THE SECOND FORM. 'bulk': how many values and letters a reading holds, each counted each time it is reached (what is shared counts as often as it is met; a slice's spare places count too). A statement '..UptoSaid' is the law's where the arguments, and the package variables that the reading takes, are together of bulk at most 1048576: NARROWER than '..Said'. Prove '..Said' where nothing that the law and all that it calls make is longer than what came in: it says more and counts as full. Else prove '..UptoSaid'. A law counts once. -/
mutual
def uptoBulk {H : Type} : DataW H → Nat
  | .lit (.string bytes) => bytes.length + 1
  | .lit _ => 1
  | .nil => 1
  | .ptr d => uptoBulk d + 1
  | .slice elems spare => uptoBulkAll elems + uptoBulkAll spare + 1
  | .agg parts => uptoBulkAll parts + 1
  | .iface _ d => uptoBulk d + 1
  | .map entries => uptoBulkEntries entries + 1
  | .held _ => 1
def uptoBulkAll {H : Type} : List (DataW H) → Nat
  | [] => 0
  | d :: r => uptoBulk d + uptoBulkAll r
def uptoBulkEntries {H : Type} : List (Lit × DataW H) → Nat
  | [] => 0
  | x :: r => uptoBulkEntry x + uptoBulkEntries r
def uptoBulkEntry {H : Type} : Lit × DataW H → Nat
  | (.string bytes, d) => bytes.length + uptoBulk d + 1
  | (_, d) => uptoBulk d + 1
 end
def uptoSmall : (H : Type) → List (DataW H) → Bool := fun _ ds => decide (uptoBulkAll ds ≤ 1048576)
def OpenSpec.upto (s : _root_.Go.ChangeSpec) : _root_.Go.OpenSpec := { _root_.Go.OpenSpec.ofChange s with cond := some uptoSmall }

/-- 'omnibuslaw08.XlWires', WHERE WHAT IT READS IS OF BULK AT MOST 1048576: true; the input reads as it did. -/
def xlWiresUptoRow : OpenClaim := { program := "ytaaphbneidmciaadoor", sum := "4c5cfaf465ef3559a9173d84e7bb5698894ad42953e6b3514cd7982ffa0ec2af", func := "omnibus/omnibuslaw08.XlWires", spec := "xlWires", unfollowed := true, recurses := true, named := ["omnibus/frame.longer", "omnibus/crc.kinds"], apart := false, laid := [("omnibus/crc.kinds", laid_omnibus_crc_kinds), ("omnibus/frame.longer", laid_omnibus_frame_longer)], narrowed := true }
def XlWiresUptoSaid : Prop := xlWiresUptoRow.holds Tryd.pinned (OpenSpec.upto xlWiresSpec)

/-- 'omnibuslaw08.XlEnds', WHERE WHAT IT READS IS OF BULK AT MOST 1048576: true; the input reads as it did. -/
def xlEndsUptoRow : OpenClaim := { program := "ytaaphbneidmciaadoor", sum := "4c5cfaf465ef3559a9173d84e7bb5698894ad42953e6b3514cd7982ffa0ec2af", func := "omnibus/omnibuslaw08.XlEnds", spec := "xlEnds", unfollowed := true, recurses := true, named := ["omnibus/frame.longer", "omnibus/crc.kinds"], apart := false, laid := [("omnibus/crc.kinds", laid_omnibus_crc_kinds), ("omnibus/frame.longer", laid_omnibus_frame_longer)], narrowed := true }
def XlEndsUptoSaid : Prop := xlEndsUptoRow.holds Tryd.pinned (OpenSpec.upto xlEndsSpec)

/-- 'omnibuslaw08.XlRuns', WHERE WHAT IT READS IS OF BULK AT MOST 1048576: true; the input reads as it did. -/
def xlRunsUptoRow : OpenClaim := { program := "ytaaphbneidmciaadoor", sum := "4c5cfaf465ef3559a9173d84e7bb5698894ad42953e6b3514cd7982ffa0ec2af", func := "omnibus/omnibuslaw08.XlRuns", spec := "xlRuns", unfollowed := true, recurses := true, named := ["omnibus/frame.longer", "omnibus/crc.kinds"], apart := false, laid := [("omnibus/crc.kinds", laid_omnibus_crc_kinds), ("omnibus/frame.longer", laid_omnibus_frame_longer)], narrowed := true }
def XlRunsUptoSaid : Prop := xlRunsUptoRow.holds Tryd.pinned (OpenSpec.upto xlRunsSpec)

/-- 'omnibuslaw08.XlOrders', WHERE WHAT IT READS IS OF BULK AT MOST 1048576: true; the input reads as it did. -/
def xlOrdersUptoRow : OpenClaim := { program := "ytaaphbneidmciaadoor", sum := "4c5cfaf465ef3559a9173d84e7bb5698894ad42953e6b3514cd7982ffa0ec2af", func := "omnibus/omnibuslaw08.XlOrders", spec := "xlOrders", unfollowed := true, recurses := true, named := ["omnibus/frame.longer", "omnibus/crc.kinds"], apart := false, laid := [("omnibus/crc.kinds", laid_omnibus_crc_kinds), ("omnibus/frame.longer", laid_omnibus_frame_longer)], narrowed := true }
def XlOrdersUptoSaid : Prop := xlOrdersUptoRow.holds Tryd.pinned (OpenSpec.upto xlOrdersSpec)

/-- 'omnibuslaw08.XlApart', WHERE WHAT IT READS IS OF BULK AT MOST 1048576: true; the input reads as it did. -/
def xlApartUptoRow : OpenClaim := { program := "ytaaphbneidmciaadoor", sum := "4c5cfaf465ef3559a9173d84e7bb5698894ad42953e6b3514cd7982ffa0ec2af", func := "omnibus/omnibuslaw08.XlApart", spec := "xlApart", unfollowed := true, recurses := true, named := ["omnibus/frame.longer", "omnibus/crc.kinds"], apart := false, laid := [("omnibus/crc.kinds", laid_omnibus_crc_kinds), ("omnibus/frame.longer", laid_omnibus_frame_longer)], narrowed := true }
def XlApartUptoSaid : Prop := xlApartUptoRow.holds Tryd.pinned (OpenSpec.upto xlApartSpec)

/-- 'omnibuslaw08.XlSizes', WHERE WHAT IT READS IS OF BULK AT MOST 1048576: true; the input reads as it did. -/
def xlSizesUptoRow : OpenClaim := { program := "ytaaphbneidmciaadoor", sum := "4c5cfaf465ef3559a9173d84e7bb5698894ad42953e6b3514cd7982ffa0ec2af", func := "omnibus/omnibuslaw08.XlSizes", spec := "xlSizes", unfollowed := true, recurses := true, named := ["omnibus/frame.longer", "omnibus/crc.kinds"], apart := false, laid := [("omnibus/crc.kinds", laid_omnibus_crc_kinds), ("omnibus/frame.longer", laid_omnibus_frame_longer)], narrowed := true }
def XlSizesUptoSaid : Prop := xlSizesUptoRow.holds Tryd.pinned (OpenSpec.upto xlSizesSpec)

end Rows
end Go.Proofs.YtaaphbneidmciaaDoor
