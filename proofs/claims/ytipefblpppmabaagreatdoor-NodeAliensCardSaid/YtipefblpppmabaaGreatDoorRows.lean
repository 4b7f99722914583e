/-
  NARROWER THAN 'FOR EVERY INPUT', by the rows' own cells (each row's printed sentence says how): NodeActs: laid · NodePair: laid · NodeAlone: laid · NodeQuiet: laid · NodeMay: laid · NodeAliens: laid.
  DERIVED. THE GIVEN ROWS OF THIS SEAT. 6 by the template 'for every input the law returns true; each argument reads behind the call as it read before'; 0 by the template 'total and deterministic' (their statements: YtipefblpppmabaaGreatDoorTotals.lean).
  GIVEN WITH THE SEED: the statements are not yours to turn. If you find one false, say at which input.
  Laid BY PROGRAM, IN A SANDBOX (cutbox-rows.mjs): the forced cells as the released guide's own fill.sh prints them over the translation ca72ced09270bebf… (all of the seat's roots in one cut). By AI agents, Wed Nov 11 2026. No macro, syntax, notation, axiom, sorry.
-/
import Derived.Test.YtipefblpppmabaaGreatDoorChecked
import GoSem.Claim
import GoSem.ClaimJoined
import GoSem.ClaimMapViews
import Derived.JoinedTies
import Derived.KernelRfl
namespace Go.Proofs.YtipefblpppmabaaGreatDoor
/- THE CELL 'sum', in the pinned program and in every row, IS THE sha256 OF THE DUMP (.gsa) THAT YtipefblpppmabaaGreatDoorProg.lean LOADS. Nothing in Lean hashes anything: it is a label: what it is worth is what the hold of that sum in a sandbox is worth. -/
noncomputable def Tryz.pinned : Pinned := { name := "ytipefblpppmabaagreatdoor", sum := "ca72ced09270bebf0cf8c1e8841c352abfad47e58a918b6173558b63ed9a715a", checked := Tryz.checked }
namespace Rows
def none {H : Type} : Left H := { results := [], args := [] }

/- WHAT THE LISTED PACKAGE-LEVEL VARIABLES READ AS WHEN THE CALL BEGINS. Each datum BY PROGRAM (the guide's laid-datum.mjs) off the statement by which the dump's own 'gosem.cut.vars' lays the variable. In a bare row this is a premise. The card (YtipefblpppmabaaGreatDoorCards.lean) ties it to the program's text. -/
def laid_omnibus_crc_kinds {H : Type} : DataW H := .agg [.agg [.lit (.int .i64 0), .lit (.int .u64 0), .lit (.int .u64 0)], .agg [.lit (.int .i64 15), .lit (.int .u64 17817), .lit (.int .u64 0)], .agg [.lit (.int .i64 17), .lit (.int .u64 92251), .lit (.int .u64 65536)], .agg [.lit (.int .i64 21), .lit (.int .u64 1058969), .lit (.int .u64 1048576)], .agg [.lit (.int .i64 13), .lit (.int .u64 6631), .lit (.int .u64 1)], .agg [.lit (.int .i64 32), .lit (.int .u64 4104977171), .lit (.int .u64 1)]]
def laid_omnibus_frame_longer {H : Type} : DataW H := .agg [.lit (.int .i64 12), .lit (.int .i64 16), .lit (.int .i64 20), .lit (.int .i64 24), .lit (.int .i64 32), .lit (.int .i64 48), .lit (.int .i64 64)]

/-- 'omnibuslaw12.NodeActs': WHATEVER THE INPUT: true; the input reads as it did. -/
def nodeActsSpec : ChangeSpec := { name := "nodeActs", fn := fun _ => fun
  | [d1, d2] => { results := [.lit (.bool true)], args := [d1, d2] }
  | _ => none }
def nodeActsRow : OpenClaim := { program := "ytipefblpppmabaagreatdoor", sum := "ca72ced09270bebf0cf8c1e8841c352abfad47e58a918b6173558b63ed9a715a", func := "omnibus/omnibuslaw12.NodeActs", spec := "nodeActs", unfollowed := true, recurses := true, named := ["omnibus/crc.kinds", "omnibus/frame.longer"], apart := false, laid := [("omnibus/crc.kinds", laid_omnibus_crc_kinds), ("omnibus/frame.longer", laid_omnibus_frame_longer)] }
def NodeActsSaid : Prop := nodeActsRow.holds Tryz.pinned (OpenSpec.ofChange nodeActsSpec)

/-- ITS FALSE NEIGHBOUR: 'it returns false'. Refute it at one input. -/
def nodeActsWrong : ChangeSpec := { name := "nodeActs", fn := fun _ => fun
  | [d1, d2] => { results := [.lit (.bool false)], args := [d1, d2] }
  | _ => none }
def NodeActsWrongFalsely : Prop := nodeActsRow.holds Tryz.pinned (OpenSpec.ofChange nodeActsWrong)

/-- 'omnibuslaw12.NodePair': WHATEVER THE INPUT: true; the input reads as it did. -/
def nodePairSpec : ChangeSpec := { name := "nodePair", fn := fun _ => fun
  | [d] => { results := [.lit (.bool true)], args := [d] }
  | _ => none }
def nodePairRow : OpenClaim := { program := "ytipefblpppmabaagreatdoor", sum := "ca72ced09270bebf0cf8c1e8841c352abfad47e58a918b6173558b63ed9a715a", func := "omnibus/omnibuslaw12.NodePair", spec := "nodePair", unfollowed := true, recurses := true, named := ["omnibus/crc.kinds", "omnibus/frame.longer"], apart := false, laid := [("omnibus/crc.kinds", laid_omnibus_crc_kinds), ("omnibus/frame.longer", laid_omnibus_frame_longer)] }
def NodePairSaid : Prop := nodePairRow.holds Tryz.pinned (OpenSpec.ofChange nodePairSpec)

/-- ITS FALSE NEIGHBOUR: 'it returns false'. Refute it at one input. -/
def nodePairWrong : ChangeSpec := { name := "nodePair", fn := fun _ => fun
  | [d] => { results := [.lit (.bool false)], args := [d] }
  | _ => none }
def NodePairWrongFalsely : Prop := nodePairRow.holds Tryz.pinned (OpenSpec.ofChange nodePairWrong)

/-- 'omnibuslaw12.NodeAlone': WHATEVER THE INPUT: true; the input reads as it did. -/
def nodeAloneSpec : ChangeSpec := { name := "nodeAlone", fn := fun _ => fun
  | [d1, d2] => { results := [.lit (.bool true)], args := [d1, d2] }
  | _ => none }
def nodeAloneRow : OpenClaim := { program := "ytipefblpppmabaagreatdoor", sum := "ca72ced09270bebf0cf8c1e8841c352abfad47e58a918b6173558b63ed9a715a", func := "omnibus/omnibuslaw12.NodeAlone", spec := "nodeAlone", unfollowed := true, recurses := true, named := ["omnibus/crc.kinds", "omnibus/frame.longer"], apart := false, laid := [("omnibus/crc.kinds", laid_omnibus_crc_kinds), ("omnibus/frame.longer", laid_omnibus_frame_longer)] }
def NodeAloneSaid : Prop := nodeAloneRow.holds Tryz.pinned (OpenSpec.ofChange nodeAloneSpec)

/-- ITS FALSE NEIGHBOUR: 'it returns false'. Refute it at one input. -/
def nodeAloneWrong : ChangeSpec := { name := "nodeAlone", fn := fun _ => fun
  | [d1, d2] => { results := [.lit (.bool false)], args := [d1, d2] }
  | _ => none }
def NodeAloneWrongFalsely : Prop := nodeAloneRow.holds Tryz.pinned (OpenSpec.ofChange nodeAloneWrong)

/-- 'omnibuslaw12.NodeQuiet': WHATEVER THE INPUT: true; the input reads as it did. -/
def nodeQuietSpec : ChangeSpec := { name := "nodeQuiet", fn := fun _ => fun
  | [d1, d2] => { results := [.lit (.bool true)], args := [d1, d2] }
  | _ => none }
def nodeQuietRow : OpenClaim := { program := "ytipefblpppmabaagreatdoor", sum := "ca72ced09270bebf0cf8c1e8841c352abfad47e58a918b6173558b63ed9a715a", func := "omnibus/omnibuslaw12.NodeQuiet", spec := "nodeQuiet", unfollowed := true, recurses := true, named := ["omnibus/crc.kinds", "omnibus/frame.longer"], apart := false, laid := [("omnibus/crc.kinds", laid_omnibus_crc_kinds), ("omnibus/frame.longer", laid_omnibus_frame_longer)] }
def NodeQuietSaid : Prop := nodeQuietRow.holds Tryz.pinned (OpenSpec.ofChange nodeQuietSpec)

/-- ITS FALSE NEIGHBOUR: 'it returns false'. Refute it at one input. -/
def nodeQuietWrong : ChangeSpec := { name := "nodeQuiet", fn := fun _ => fun
  | [d1, d2] => { results := [.lit (.bool false)], args := [d1, d2] }
  | _ => none }
def NodeQuietWrongFalsely : Prop := nodeQuietRow.holds Tryz.pinned (OpenSpec.ofChange nodeQuietWrong)

/-- 'omnibuslaw12.NodeMay': WHATEVER THE INPUT: true; the input reads as it did. -/
def nodeMaySpec : ChangeSpec := { name := "nodeMay", fn := fun _ => fun
  | [d1, d2] => { results := [.lit (.bool true)], args := [d1, d2] }
  | _ => none }
def nodeMayRow : OpenClaim := { program := "ytipefblpppmabaagreatdoor", sum := "ca72ced09270bebf0cf8c1e8841c352abfad47e58a918b6173558b63ed9a715a", func := "omnibus/omnibuslaw12.NodeMay", spec := "nodeMay", unfollowed := true, recurses := true, named := ["omnibus/crc.kinds", "omnibus/frame.longer"], apart := false, laid := [("omnibus/crc.kinds", laid_omnibus_crc_kinds), ("omnibus/frame.longer", laid_omnibus_frame_longer)] }
def NodeMaySaid : Prop := nodeMayRow.holds Tryz.pinned (OpenSpec.ofChange nodeMaySpec)

/-- ITS FALSE NEIGHBOUR: 'it returns false'. Refute it at one input. -/
def nodeMayWrong : ChangeSpec := { name := "nodeMay", fn := fun _ => fun
  | [d1, d2] => { results := [.lit (.bool false)], args := [d1, d2] }
  | _ => none }
def NodeMayWrongFalsely : Prop := nodeMayRow.holds Tryz.pinned (OpenSpec.ofChange nodeMayWrong)

/-- 'omnibuslaw12.NodeAliens': WHATEVER THE INPUT: true; the input reads as it did. -/
def nodeAliensSpec : ChangeSpec := { name := "nodeAliens", fn := fun _ => fun
  | [d] => { results := [.lit (.bool true)], args := [d] }
  | _ => none }
def nodeAliensRow : OpenClaim := { program := "ytipefblpppmabaagreatdoor", sum := "ca72ced09270bebf0cf8c1e8841c352abfad47e58a918b6173558b63ed9a715a", func := "omnibus/omnibuslaw12.NodeAliens", spec := "nodeAliens", unfollowed := true, recurses := true, named := ["omnibus/crc.kinds", "omnibus/frame.longer"], apart := false, laid := [("omnibus/crc.kinds", laid_omnibus_crc_kinds), ("omnibus/frame.longer", laid_omnibus_frame_longer)] }
def NodeAliensSaid : Prop := nodeAliensRow.holds Tryz.pinned (OpenSpec.ofChange nodeAliensSpec)

/-- ITS FALSE NEIGHBOUR: 'it returns false'. Refute it at one input. -/
def nodeAliensWrong : ChangeSpec := { name := "nodeAliens", fn := fun _ => fun
  | [d] => { results := [.lit (.bool false)], args := [d] }
  | _ => none }
def NodeAliensWrongFalsely : Prop := nodeAliensRow.holds Tryz.pinned (OpenSpec.ofChange nodeAliensWrong)

/- THE SECOND FORM. 'bulk': how many values and letters a reading holds, each counted each time it is reached (what is shared counts as often as it is met; a slice's spare places count too). A statement '..UptoSaid' is the law's where the arguments, and the package variables that the reading takes, are together of bulk at most 1048576: NARROWER than '..Said'. Prove '..Said' where nothing that the law and all that it calls make is longer than what came in: it says more and counts as full. Else prove '..UptoSaid'. A law counts once. -/
mutual
def uptoBulk {H : Type} : DataW H → Nat
  | .lit (.string bytes) => bytes.length + 1
  | .lit _ => 1
  | .nil => 1
  | .ptr d => uptoBulk d + 1
  | .slice elems spare => uptoBulkAll elems + uptoBulkAll spare + 1
  | .agg parts => uptoBulkAll parts + 1
  | .iface _ d => uptoBulk d + 1
  | .map entries => uptoBulkEntries entries + 1
  | .held _ => 1
def uptoBulkAll {H : Type} : List (DataW H) → Nat
  | [] => 0
  | d :: r => uptoBulk d + uptoBulkAll r
def uptoBulkEntries {H : Type} : List (Lit × DataW H) → Nat
  | [] => 0
  | x :: r => uptoBulkEntry x + uptoBulkEntries r
def uptoBulkEntry {H : Type} : Lit × DataW H → Nat
  | (.string bytes, d) => bytes.length + uptoBulk d + 1
  | (_, d) => uptoBulk d + 1
 end
def uptoSmall : (H : Type) → List (DataW H) → Bool := fun _ ds => decide (uptoBulkAll ds ≤ 1048576)
def OpenSpec.upto (s : _root_.Go.ChangeSpec) : _root_.Go.OpenSpec := { _root_.Go.OpenSpec.ofChange s with cond := some uptoSmall }

/-- 'omnibuslaw12.NodeActs', WHERE WHAT IT READS IS OF BULK AT MOST 1048576: true; the input reads as it did. -/
def nodeActsUptoRow : OpenClaim := { program := "ytipefblpppmabaagreatdoor", sum := "ca72ced09270bebf0cf8c1e8841c352abfad47e58a918b6173558b63ed9a715a", func := "omnibus/omnibuslaw12.NodeActs", spec := "nodeActs", unfollowed := true, recurses := true, named := ["omnibus/crc.kinds", "omnibus/frame.longer"], apart := false, laid := [("omnibus/crc.kinds", laid_omnibus_crc_kinds), ("omnibus/frame.longer", laid_omnibus_frame_longer)], narrowed := true }
def NodeActsUptoSaid : Prop := nodeActsUptoRow.holds Tryz.pinned (OpenSpec.upto nodeActsSpec)

/-- 'omnibuslaw12.NodePair', WHERE WHAT IT READS IS OF BULK AT MOST 1048576: true; the input reads as it did. -/
def nodePairUptoRow : OpenClaim := { program := "ytipefblpppmabaagreatdoor", sum := "ca72ced09270bebf0cf8c1e8841c352abfad47e58a918b6173558b63ed9a715a", func := "omnibus/omnibuslaw12.NodePair", spec := "nodePair", unfollowed := true, recurses := true, named := ["omnibus/crc.kinds", "omnibus/frame.longer"], apart := false, laid := [("omnibus/crc.kinds", laid_omnibus_crc_kinds), ("omnibus/frame.longer", laid_omnibus_frame_longer)], narrowed := true }
def NodePairUptoSaid : Prop := nodePairUptoRow.holds Tryz.pinned (OpenSpec.upto nodePairSpec)

/-- 'omnibuslaw12.NodeAlone', WHERE WHAT IT READS IS OF BULK AT MOST 1048576: true; the input reads as it did. -/
def nodeAloneUptoRow : OpenClaim := { program := "ytipefblpppmabaagreatdoor", sum := "ca72ced09270bebf0cf8c1e8841c352abfad47e58a918b6173558b63ed9a715a", func := "omnibus/omnibuslaw12.NodeAlone", spec := "nodeAlone", unfollowed := true, recurses := true, named := ["omnibus/crc.kinds", "omnibus/frame.longer"], apart := false, laid := [("omnibus/crc.kinds", laid_omnibus_crc_kinds), ("omnibus/frame.longer", laid_omnibus_frame_longer)], narrowed := true }
def NodeAloneUptoSaid : Prop := nodeAloneUptoRow.holds Tryz.pinned (OpenSpec.upto nodeAloneSpec)

/-- 'omnibuslaw12.NodeQuiet', WHERE WHAT IT READS IS OF BULK AT MOST 1048576: true; the input reads as it did. -/
def nodeQuietUptoRow : OpenClaim := { program := "ytipefblpppmabaagreatdoor", sum := "ca72ced09270bebf0cf8c1e8841c352abfad47e58a918b6173558b63ed9a715a", func := "omnibus/omnibuslaw12.NodeQuiet", spec := "nodeQuiet", unfollowed := true, recurses := true, named := ["omnibus/crc.kinds", "omnibus/frame.longer"], apart := false, laid := [("omnibus/crc.kinds", laid_omnibus_crc_kinds), ("omnibus/frame.longer", laid_omnibus_frame_longer)], narrowed := true }
def NodeQuietUptoSaid : Prop := nodeQuietUptoRow.holds Tryz.pinned (OpenSpec.upto nodeQuietSpec)

/-- 'omnibuslaw12.NodeMay', WHERE WHAT IT READS IS OF BULK AT MOST 1048576: true; the input reads as it did. -/
def nodeMayUptoRow : OpenClaim := { program := "ytipefblpppmabaagreatdoor", sum := "ca72ced09270bebf0cf8c1e8841c352abfad47e58a918b6173558b63ed9a715a", func := "omnibus/omnibuslaw12.NodeMay", spec := "nodeMay", unfollowed := true, recurses := true, named := ["omnibus/crc.kinds", "omnibus/frame.longer"], apart := false, laid := [("omnibus/crc.kinds", laid_omnibus_crc_kinds), ("omnibus/frame.longer", laid_omnibus_frame_longer)], narrowed := true }
def NodeMayUptoSaid : Prop := nodeMayUptoRow.holds Tryz.pinned (OpenSpec.upto nodeMaySpec)

/-- 'omnibuslaw12.NodeAliens', WHERE WHAT IT READS IS OF BULK AT MOST 1048576: true; the input reads as it did. -/
def nodeAliensUptoRow : OpenClaim := { program := "ytipefblpppmabaagreatdoor", sum := "ca72ced09270bebf0cf8c1e8841c352abfad47e58a918b6173558b63ed9a715a", func := "omnibus/omnibuslaw12.NodeAliens", spec := "nodeAliens", unfollowed := true, recurses := true, named := ["omnibus/crc.kinds", "omnibus/frame.longer"], apart := false, laid := [("omnibus/crc.kinds", laid_omnibus_crc_kinds), ("omnibus/frame.longer", laid_omnibus_frame_longer)], narrowed := true }
def NodeAliensUptoSaid : Prop := nodeAliensUptoRow.holds Tryz.pinned (OpenSpec.upto nodeAliensSpec)

end Rows
end Go.Proofs.YtipefblpppmabaaGreatDoor
