/-
  NARROWER THAN 'FOR EVERY INPUT', by the rows' own cells (each row's printed sentence says how): BusCalm: laid · BusTight: laid.
  DERIVED. THE GIVEN ROWS OF THIS SEAT. 2 by the template 'for every input the law returns true; each argument reads behind the call as it read before'; 0 by the template 'total and deterministic' (their statements: YtplbmlpdefpplaaGreatDoorTotals.lean).
  GIVEN WITH THE SEED: the statements are not yours to turn. If you find one false, say at which input.
  Laid BY PROGRAM, IN A SANDBOX (cutbox-rows.mjs): the forced cells as the released guide's own fill.sh prints them over the translation 0d1e6399233d9501… (all of the seat's roots in one cut). By AI agents, Wed Nov 11 2026. No macro, syntax, notation, axiom, sorry.
-/
import Derived.Test.YtplbmlpdefpplaaGreatDoorChecked
import GoSem.Claim
import GoSem.ClaimJoined
import GoSem.ClaimMapViews
import Derived.JoinedTies
import Derived.KernelRfl
namespace Go.Proofs.YtplbmlpdefpplaaGreatDoor
/- THE CELL 'sum', in the pinned program and in every row, IS THE sha256 OF THE DUMP (.gsa) THAT YtplbmlpdefpplaaGreatDoorProg.lean LOADS. Nothing in Lean hashes anything: it is a label: what it is worth is what the hold of that sum in a sandbox is worth. -/
noncomputable def Tryz.pinned : Pinned := { name := "ytplbmlpdefpplaagreatdoor", sum := "0d1e6399233d95017022eac44c5cde57230764548389eee5f742c3d5291b0833", checked := Tryz.checked }
namespace Rows
def none {H : Type} : Left H := { results := [], args := [] }

/- WHAT THE LISTED PACKAGE-LEVEL VARIABLES READ AS WHEN THE CALL BEGINS. Each datum BY PROGRAM (the guide's laid-datum.mjs) off the statement by which the dump's own 'gosem.cut.vars' lays the variable. In a bare row this is a premise. The card (YtplbmlpdefpplaaGreatDoorCards.lean) ties it to the program's text. -/
def laid_omnibus_crc_kinds {H : Type} : DataW H := .agg [.agg [.lit (.int .i64 0), .lit (.int .u64 0), .lit (.int .u64 0)], .agg [.lit (.int .i64 15), .lit (.int .u64 17817), .lit (.int .u64 0)], .agg [.lit (.int .i64 17), .lit (.int .u64 92251), .lit (.int .u64 65536)], .agg [.lit (.int .i64 21), .lit (.int .u64 1058969), .lit (.int .u64 1048576)], .agg [.lit (.int .i64 13), .lit (.int .u64 6631), .lit (.int .u64 1)], .agg [.lit (.int .i64 32), .lit (.int .u64 4104977171), .lit (.int .u64 1)]]
def laid_omnibus_frame_longer {H : Type} : DataW H := .agg [.lit (.int .i64 12), .lit (.int .i64 16), .lit (.int .i64 20), .lit (.int .i64 24), .lit (.int .i64 32), .lit (.int .i64 48), .lit (.int .i64 64)]

/-- 'omnibuslaw13.BusCalm': WHATEVER THE INPUT: true; the input reads as it did. -/
def busCalmSpec : ChangeSpec := { name := "busCalm", fn := fun _ => fun
  | [d1, d2] => { results := [.lit (.bool true)], args := [d1, d2] }
  | _ => none }
def busCalmRow : OpenClaim := { program := "ytplbmlpdefpplaagreatdoor", sum := "0d1e6399233d95017022eac44c5cde57230764548389eee5f742c3d5291b0833", func := "omnibus/omnibuslaw13.BusCalm", spec := "busCalm", unfollowed := true, recurses := true, named := ["omnibus/frame.longer", "omnibus/crc.kinds"], apart := false, laid := [("omnibus/crc.kinds", laid_omnibus_crc_kinds), ("omnibus/frame.longer", laid_omnibus_frame_longer)] }
def BusCalmSaid : Prop := busCalmRow.holds Tryz.pinned (OpenSpec.ofChange busCalmSpec)

/-- ITS FALSE NEIGHBOUR: 'it returns false'. Refute it at one input. -/
def busCalmWrong : ChangeSpec := { name := "busCalm", fn := fun _ => fun
  | [d1, d2] => { results := [.lit (.bool false)], args := [d1, d2] }
  | _ => none }
def BusCalmWrongFalsely : Prop := busCalmRow.holds Tryz.pinned (OpenSpec.ofChange busCalmWrong)

/-- 'omnibuslaw13.BusTight': WHATEVER THE INPUT: true; the input reads as it did. -/
def busTightSpec : ChangeSpec := { name := "busTight", fn := fun _ => fun
  | [d1, d2] => { results := [.lit (.bool true)], args := [d1, d2] }
  | _ => none }
def busTightRow : OpenClaim := { program := "ytplbmlpdefpplaagreatdoor", sum := "0d1e6399233d95017022eac44c5cde57230764548389eee5f742c3d5291b0833", func := "omnibus/omnibuslaw13.BusTight", spec := "busTight", unfollowed := true, recurses := true, named := ["omnibus/frame.longer", "omnibus/crc.kinds"], apart := false, laid := [("omnibus/crc.kinds", laid_omnibus_crc_kinds), ("omnibus/frame.longer", laid_omnibus_frame_longer)] }
def BusTightSaid : Prop := busTightRow.holds Tryz.pinned (OpenSpec.ofChange busTightSpec)

/-- ITS FALSE NEIGHBOUR: 'it returns false'. Refute it at one input. -/
def busTightWrong : ChangeSpec := { name := "busTight", fn := fun _ => fun
  | [d1, d2] => { results := [.lit (.bool false)], args := [d1, d2] }
  | _ => none }
def BusTightWrongFalsely : Prop := busTightRow.holds Tryz.pinned (OpenSpec.ofChange busTightWrong)

/- THE SECOND FORM. 'bulk': how many values and letters a reading holds, each counted each time it is reached (what is shared counts as often as it is met; a slice's spare places count too). A statement '..UptoSaid' is the law's where the arguments, and the package variables that the reading takes, are together of bulk at most 1048576: NARROWER than '..Said'. Prove '..Said' where nothing that the law and all that it calls make is longer than what came in: it says more and counts as full. Else prove '..UptoSaid'. A law counts once. -/
mutual
def uptoBulk {H : Type} : DataW H → Nat
  | .lit (.string bytes) => bytes.length + 1
  | .lit _ => 1
  | .nil => 1
  | .ptr d => uptoBulk d + 1
  | .slice elems spare => uptoBulkAll elems + uptoBulkAll spare + 1
  | .agg parts => uptoBulkAll parts + 1
  | .iface _ d => uptoBulk d + 1
  | .map entries => uptoBulkEntries entries + 1
  | .held _ => 1
def uptoBulkAll {H : Type} : List (DataW H) → Nat
  | [] => 0
  | d :: r => uptoBulk d + uptoBulkAll r
def uptoBulkEntries {H : Type} : List (Lit × DataW H) → Nat
  | [] => 0
  | x :: r => uptoBulkEntry x + uptoBulkEntries r
def uptoBulkEntry {H : Type} : Lit × DataW H → Nat
  | (.string bytes, d) => bytes.length + uptoBulk d + 1
  | (_, d) => uptoBulk d + 1
 end
def uptoSmall : (H : Type) → List (DataW H) → Bool := fun _ ds => decide (uptoBulkAll ds ≤ 1048576)
def OpenSpec.upto (s : _root_.Go.ChangeSpec) : _root_.Go.OpenSpec := { _root_.Go.OpenSpec.ofChange s with cond := some uptoSmall }

/-- 'omnibuslaw13.BusCalm', WHERE WHAT IT READS IS OF BULK AT MOST 1048576: true; the input reads as it did. -/
def busCalmUptoRow : OpenClaim := { program := "ytplbmlpdefpplaagreatdoor", sum := "0d1e6399233d95017022eac44c5cde57230764548389eee5f742c3d5291b0833", func := "omnibus/omnibuslaw13.BusCalm", spec := "busCalm", unfollowed := true, recurses := true, named := ["omnibus/frame.longer", "omnibus/crc.kinds"], apart := false, laid := [("omnibus/crc.kinds", laid_omnibus_crc_kinds), ("omnibus/frame.longer", laid_omnibus_frame_longer)], narrowed := true }
def BusCalmUptoSaid : Prop := busCalmUptoRow.holds Tryz.pinned (OpenSpec.upto busCalmSpec)

/-- 'omnibuslaw13.BusTight', WHERE WHAT IT READS IS OF BULK AT MOST 1048576: true; the input reads as it did. -/
def busTightUptoRow : OpenClaim := { program := "ytplbmlpdefpplaagreatdoor", sum := "0d1e6399233d95017022eac44c5cde57230764548389eee5f742c3d5291b0833", func := "omnibus/omnibuslaw13.BusTight", spec := "busTight", unfollowed := true, recurses := true, named := ["omnibus/frame.longer", "omnibus/crc.kinds"], apart := false, laid := [("omnibus/crc.kinds", laid_omnibus_crc_kinds), ("omnibus/frame.longer", laid_omnibus_frame_longer)], narrowed := true }
def BusTightUptoSaid : Prop := busTightUptoRow.holds Tryz.pinned (OpenSpec.upto busTightSpec)

end Rows
end Go.Proofs.YtplbmlpdefpplaaGreatDoor
