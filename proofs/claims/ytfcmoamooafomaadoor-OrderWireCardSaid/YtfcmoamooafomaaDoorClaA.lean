
/- What the laws of layer 6 ask first: the document's example, and whether a frame may be. Condition: the tables of kinds and of longer sizes hold what the program's text lays there. -/
import Derived.Test.YtfcmoamooafomaaDoorClaW
import Derived.Test.YtfcmoamooafomaaDoorGc
import Derived.Test.YtfcmoamooafomaaDoorFrmA
import Derived.LaidSub
namespace Go.Proofs.YtfcmoamooafomaaDoor
set_option linter.unusedVariables false
set_option linter.unusedSimpArgs false
open Go.RowKit

/-- Both listed variables hold what the program's text lays there. -/
def Both (w : World) : Prop := Kinds w ∧ Longer w
theorem Both.below {w w' : World} (h : Both w) (hb : Nb w w') : Both w' := ⟨h.1.below hb, h.2.below hb⟩
theorem both_of {W : World} (h : laidMetH Tryd.prog [("omnibus/crc.kinds", Rows.laid_omnibus_crc_kinds), ("omnibus/frame.longer", Rows.laid_omnibus_frame_longer)] W) : Both W :=
  ⟨kinds_of (h.filter fun x => x.1 == "omnibus/crc.kinds"), longer_of (h.filter fun x => x.1 == "omnibus/frame.longer")⟩

def liveF : Hd := ⟨1, 1365, false, false, false, false, false, 0, 0, 0⟩
theorem live_wire : (wireC liveF []).length = 45 ∧ wAckC liveF [] = 36 ∧ okE liveF [] = 0 ∧ (wireC liveF []).getD 0 0 = 0 := by decide +kernel

end Go.Proofs.YtfcmoamooafomaaDoor
