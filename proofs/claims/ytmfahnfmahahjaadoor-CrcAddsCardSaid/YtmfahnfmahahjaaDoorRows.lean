/-
  NARROWER THAN 'FOR EVERY INPUT', by the rows' own cells (each row's printed sentence says how): CrcSums: laid · CrcAdds: laid · CrcGoes: laid · CrcTurns: laid · CrcBursts: laid · CrcBelongs: laid.
  DERIVED. THE GIVEN ROWS OF THIS SEAT. 6 by the template 'for every input the law returns true; each argument reads behind the call as it read before'; 0 by the template 'total and deterministic' (their statements: YtmfahnfmahahjaaDoorTotals.lean).
  GIVEN WITH THE SEED: the statements are not yours to turn. If you find one false, say at which input.
  Laid BY PROGRAM, IN A SANDBOX (cutbox-rows.mjs): the forced cells as the released guide's own fill.sh prints them over the translation 8ff9e29266c3a425… (all of the seat's roots in one cut). By AI agents, Wed Nov 11 2026. No macro, syntax, notation, axiom, sorry.
-/
import Derived.Test.YtmfahnfmahahjaaDoorChecked
import GoSem.Claim
import GoSem.ClaimJoined
import GoSem.ClaimMapViews
import Derived.JoinedTies
import Derived.KernelRfl
namespace Go.Proofs.YtmfahnfmahahjaaDoor
/- THE CELL 'sum', in the pinned program and in every row, IS THE sha256 OF THE DUMP (.gsa) THAT YtmfahnfmahahjaaDoorProg.lean LOADS. Nothing in Lean hashes anything: it is a label: what it is worth is what the hold of that sum in a sandbox is worth. -/
noncomputable def Tryd.pinned : Pinned := { name := "ytmfahnfmahahjaadoor", sum := "8ff9e29266c3a425860bf2d23e6af95c7ebf71ea7c8c507568d01bac81bd796b", checked := Tryd.checked }
namespace Rows
def none {H : Type} : Left H := { results := [], args := [] }

/- WHAT THE LISTED PACKAGE-LEVEL VARIABLES READ AS WHEN THE CALL BEGINS. Each datum BY PROGRAM (the guide's laid-datum.mjs) off the statement by which the dump's own 'gosem.cut.vars' lays the variable. In a bare row this is a premise. The card (YtmfahnfmahahjaaDoorCards.lean) ties it to the program's text. -/
def laid_omnibus_crc_kinds {H : Type} : DataW H := .agg [.agg [.lit (.int .i64 0), .lit (.int .u64 0), .lit (.int .u64 0)], .agg [.lit (.int .i64 15), .lit (.int .u64 17817), .lit (.int .u64 0)], .agg [.lit (.int .i64 17), .lit (.int .u64 92251), .lit (.int .u64 65536)], .agg [.lit (.int .i64 21), .lit (.int .u64 1058969), .lit (.int .u64 1048576)], .agg [.lit (.int .i64 13), .lit (.int .u64 6631), .lit (.int .u64 1)], .agg [.lit (.int .i64 32), .lit (.int .u64 4104977171), .lit (.int .u64 1)]]

/-- 'omnibuslaw02.CrcSums': WHATEVER THE INPUT: true; the input reads as it did. -/
def crcSumsSpec : ChangeSpec := { name := "crcSums", fn := fun _ => fun
  | [d1, d2, d3] => { results := [.lit (.bool true)], args := [d1, d2, d3] }
  | _ => none }
def crcSumsRow : OpenClaim := { program := "ytmfahnfmahahjaadoor", sum := "8ff9e29266c3a425860bf2d23e6af95c7ebf71ea7c8c507568d01bac81bd796b", func := "omnibus/omnibuslaw02.CrcSums", spec := "crcSums", unfollowed := true, recurses := true, named := ["omnibus/crc.kinds"], apart := false, laid := [("omnibus/crc.kinds", laid_omnibus_crc_kinds)] }
def CrcSumsSaid : Prop := crcSumsRow.holds Tryd.pinned (OpenSpec.ofChange crcSumsSpec)

/-- ITS FALSE NEIGHBOUR: 'it returns false'. Refute it at one input. -/
def crcSumsWrong : ChangeSpec := { name := "crcSums", fn := fun _ => fun
  | [d1, d2, d3] => { results := [.lit (.bool false)], args := [d1, d2, d3] }
  | _ => none }
def CrcSumsWrongFalsely : Prop := crcSumsRow.holds Tryd.pinned (OpenSpec.ofChange crcSumsWrong)

/-- 'omnibuslaw02.CrcAdds': WHATEVER THE INPUT: true; the input reads as it did. -/
def crcAddsSpec : ChangeSpec := { name := "crcAdds", fn := fun _ => fun
  | [d1, d2] => { results := [.lit (.bool true)], args := [d1, d2] }
  | _ => none }
def crcAddsRow : OpenClaim := { program := "ytmfahnfmahahjaadoor", sum := "8ff9e29266c3a425860bf2d23e6af95c7ebf71ea7c8c507568d01bac81bd796b", func := "omnibus/omnibuslaw02.CrcAdds", spec := "crcAdds", unfollowed := true, recurses := true, named := ["omnibus/crc.kinds"], apart := false, laid := [("omnibus/crc.kinds", laid_omnibus_crc_kinds)] }
def CrcAddsSaid : Prop := crcAddsRow.holds Tryd.pinned (OpenSpec.ofChange crcAddsSpec)

/-- ITS FALSE NEIGHBOUR: 'it returns false'. Refute it at one input. -/
def crcAddsWrong : ChangeSpec := { name := "crcAdds", fn := fun _ => fun
  | [d1, d2] => { results := [.lit (.bool false)], args := [d1, d2] }
  | _ => none }
def CrcAddsWrongFalsely : Prop := crcAddsRow.holds Tryd.pinned (OpenSpec.ofChange crcAddsWrong)

/-- 'omnibuslaw02.CrcGoes': WHATEVER THE INPUT: true; the input reads as it did. -/
def crcGoesSpec : ChangeSpec := { name := "crcGoes", fn := fun _ => fun
  | [d1, d2, d3] => { results := [.lit (.bool true)], args := [d1, d2, d3] }
  | _ => none }
def crcGoesRow : OpenClaim := { program := "ytmfahnfmahahjaadoor", sum := "8ff9e29266c3a425860bf2d23e6af95c7ebf71ea7c8c507568d01bac81bd796b", func := "omnibus/omnibuslaw02.CrcGoes", spec := "crcGoes", unfollowed := true, recurses := true, named := ["omnibus/crc.kinds"], apart := false, laid := [("omnibus/crc.kinds", laid_omnibus_crc_kinds)] }
def CrcGoesSaid : Prop := crcGoesRow.holds Tryd.pinned (OpenSpec.ofChange crcGoesSpec)

/-- ITS FALSE NEIGHBOUR: 'it returns false'. Refute it at one input. -/
def crcGoesWrong : ChangeSpec := { name := "crcGoes", fn := fun _ => fun
  | [d1, d2, d3] => { results := [.lit (.bool false)], args := [d1, d2, d3] }
  | _ => none }
def CrcGoesWrongFalsely : Prop := crcGoesRow.holds Tryd.pinned (OpenSpec.ofChange crcGoesWrong)

/-- 'omnibuslaw02.CrcTurns': WHATEVER THE INPUT: true; the input reads as it did. -/
def crcTurnsSpec : ChangeSpec := { name := "crcTurns", fn := fun _ => fun
  | [d] => { results := [.lit (.bool true)], args := [d] }
  | _ => none }
def crcTurnsRow : OpenClaim := { program := "ytmfahnfmahahjaadoor", sum := "8ff9e29266c3a425860bf2d23e6af95c7ebf71ea7c8c507568d01bac81bd796b", func := "omnibus/omnibuslaw02.CrcTurns", spec := "crcTurns", unfollowed := true, recurses := true, named := ["omnibus/crc.kinds"], apart := false, laid := [("omnibus/crc.kinds", laid_omnibus_crc_kinds)] }
def CrcTurnsSaid : Prop := crcTurnsRow.holds Tryd.pinned (OpenSpec.ofChange crcTurnsSpec)

/-- ITS FALSE NEIGHBOUR: 'it returns false'. Refute it at one input. -/
def crcTurnsWrong : ChangeSpec := { name := "crcTurns", fn := fun _ => fun
  | [d] => { results := [.lit (.bool false)], args := [d] }
  | _ => none }
def CrcTurnsWrongFalsely : Prop := crcTurnsRow.holds Tryd.pinned (OpenSpec.ofChange crcTurnsWrong)

/-- 'omnibuslaw02.CrcBursts': WHATEVER THE INPUT: true; the input reads as it did. -/
def crcBurstsSpec : ChangeSpec := { name := "crcBursts", fn := fun _ => fun
  | [d] => { results := [.lit (.bool true)], args := [d] }
  | _ => none }
def crcBurstsRow : OpenClaim := { program := "ytmfahnfmahahjaadoor", sum := "8ff9e29266c3a425860bf2d23e6af95c7ebf71ea7c8c507568d01bac81bd796b", func := "omnibus/omnibuslaw02.CrcBursts", spec := "crcBursts", unfollowed := true, recurses := true, named := ["omnibus/crc.kinds"], apart := false, laid := [("omnibus/crc.kinds", laid_omnibus_crc_kinds)] }
def CrcBurstsSaid : Prop := crcBurstsRow.holds Tryd.pinned (OpenSpec.ofChange crcBurstsSpec)

/-- ITS FALSE NEIGHBOUR: 'it returns false'. Refute it at one input. -/
def crcBurstsWrong : ChangeSpec := { name := "crcBursts", fn := fun _ => fun
  | [d] => { results := [.lit (.bool false)], args := [d] }
  | _ => none }
def CrcBurstsWrongFalsely : Prop := crcBurstsRow.holds Tryd.pinned (OpenSpec.ofChange crcBurstsWrong)

/-- 'omnibuslaw02.CrcBelongs': WHATEVER THE INPUT: true; the input reads as it did. -/
def crcBelongsSpec : ChangeSpec := { name := "crcBelongs", fn := fun _ => fun
  | [d1, d2, d3] => { results := [.lit (.bool true)], args := [d1, d2, d3] }
  | _ => none }
def crcBelongsRow : OpenClaim := { program := "ytmfahnfmahahjaadoor", sum := "8ff9e29266c3a425860bf2d23e6af95c7ebf71ea7c8c507568d01bac81bd796b", func := "omnibus/omnibuslaw02.CrcBelongs", spec := "crcBelongs", unfollowed := true, recurses := true, named := ["omnibus/crc.kinds"], apart := false, laid := [("omnibus/crc.kinds", laid_omnibus_crc_kinds)] }
def CrcBelongsSaid : Prop := crcBelongsRow.holds Tryd.pinned (OpenSpec.ofChange crcBelongsSpec)

/-- ITS FALSE NEIGHBOUR: 'it returns false'. Refute it at one input. -/
def crcBelongsWrong : ChangeSpec := { name := "crcBelongs", fn := fun _ => fun
  | [d1, d2, d3] => { results := [.lit (.bool false)], args := [d1, d2, d3] }
  | _ => none }
def CrcBelongsWrongFalsely : Prop := crcBelongsRow.holds Tryd.pinned (OpenSpec.ofChange crcBelongsWrong)

/- THE SECOND FORM. 'bulk': how many values and letters a reading holds, each counted each time it is reached (what is shared counts as often as it is met; a slice's spare places count too). A statement '..UptoSaid' is the law's where the arguments, and the package variables that the reading takes, are together of bulk at most 1048576: NARROWER than '..Said'. Prove '..Said' where nothing that the law and all that it calls make is longer than what came in: it says more and counts as full. Else prove '..UptoSaid'. A law counts once. -/
mutual
def uptoBulk {H : Type} : DataW H → Nat
  | .lit (.string bytes) => bytes.length + 1
  | .lit _ => 1
  | .nil => 1
  | .ptr d => uptoBulk d + 1
  | .slice elems spare => uptoBulkAll elems + uptoBulkAll spare + 1
  | .agg parts => uptoBulkAll parts + 1
  | .iface _ d => uptoBulk d + 1
  | .map entries => uptoBulkEntries entries + 1
  | .held _ => 1
def uptoBulkAll {H : Type} : List (DataW H) → Nat
  | [] => 0
  | d :: r => uptoBulk d + uptoBulkAll r
def uptoBulkEntries {H : Type} : List (Lit × DataW H) → Nat
  | [] => 0
  | x :: r => uptoBulkEntry x + uptoBulkEntries r
def uptoBulkEntry {H : Type} : Lit × DataW H → Nat
  | (.string bytes, d) => bytes.length + uptoBulk d + 1
  | (_, d) => uptoBulk d + 1
 end
def uptoSmall : (H : Type) → List (DataW H) → Bool := fun _ ds => decide (uptoBulkAll ds ≤ 1048576)
def OpenSpec.upto (s : _root_.Go.ChangeSpec) : _root_.Go.OpenSpec := { _root_.Go.OpenSpec.ofChange s with cond := some uptoSmall }

/-- 'omnibuslaw02.CrcSums', WHERE WHAT IT READS IS OF BULK AT MOST 1048576: true; the input reads as it did. -/
def crcSumsUptoRow : OpenClaim := { program := "ytmfahnfmahahjaadoor", sum := "8ff9e29266c3a425860bf2d23e6af95c7ebf71ea7c8c507568d01bac81bd796b", func := "omnibus/omnibuslaw02.CrcSums", spec := "crcSums", unfollowed := true, recurses := true, named := ["omnibus/crc.kinds"], apart := false, laid := [("omnibus/crc.kinds", laid_omnibus_crc_kinds)], narrowed := true }
def CrcSumsUptoSaid : Prop := crcSumsUptoRow.holds Tryd.pinned (OpenSpec.upto crcSumsSpec)

/-- 'omnibuslaw02.CrcAdds', WHERE WHAT IT READS IS OF BULK AT MOST 1048576: true; the input reads as it did. -/
def crcAddsUptoRow : OpenClaim := { program := "ytmfahnfmahahjaadoor", sum := "8ff9e29266c3a425860bf2d23e6af95c7ebf71ea7c8c507568d01bac81bd796b", func := "omnibus/omnibuslaw02.CrcAdds", spec := "crcAdds", unfollowed := true, recurses := true, named := ["omnibus/crc.kinds"], apart := false, laid := [("omnibus/crc.kinds", laid_omnibus_crc_kinds)], narrowed := true }
def CrcAddsUptoSaid : Prop := crcAddsUptoRow.holds Tryd.pinned (OpenSpec.upto crcAddsSpec)

/-- 'omnibuslaw02.CrcGoes', WHERE WHAT IT READS IS OF BULK AT MOST 1048576: true; the input reads as it did. -/
def crcGoesUptoRow : OpenClaim := { program := "ytmfahnfmahahjaadoor", sum := "8ff9e29266c3a425860bf2d23e6af95c7ebf71ea7c8c507568d01bac81bd796b", func := "omnibus/omnibuslaw02.CrcGoes", spec := "crcGoes", unfollowed := true, recurses := true, named := ["omnibus/crc.kinds"], apart := false, laid := [("omnibus/crc.kinds", laid_omnibus_crc_kinds)], narrowed := true }
def CrcGoesUptoSaid : Prop := crcGoesUptoRow.holds Tryd.pinned (OpenSpec.upto crcGoesSpec)

/-- 'omnibuslaw02.CrcTurns', WHERE WHAT IT READS IS OF BULK AT MOST 1048576: true; the input reads as it did. -/
def crcTurnsUptoRow : OpenClaim := { program := "ytmfahnfmahahjaadoor", sum := "8ff9e29266c3a425860bf2d23e6af95c7ebf71ea7c8c507568d01bac81bd796b", func := "omnibus/omnibuslaw02.CrcTurns", spec := "crcTurns", unfollowed := true, recurses := true, named := ["omnibus/crc.kinds"], apart := false, laid := [("omnibus/crc.kinds", laid_omnibus_crc_kinds)], narrowed := true }
def CrcTurnsUptoSaid : Prop := crcTurnsUptoRow.holds Tryd.pinned (OpenSpec.upto crcTurnsSpec)

/-- 'omnibuslaw02.CrcBursts', WHERE WHAT IT READS IS OF BULK AT MOST 1048576: true; the input reads as it did. -/
def crcBurstsUptoRow : OpenClaim := { program := "ytmfahnfmahahjaadoor", sum := "8ff9e29266c3a425860bf2d23e6af95c7ebf71ea7c8c507568d01bac81bd796b", func := "omnibus/omnibuslaw02.CrcBursts", spec := "crcBursts", unfollowed := true, recurses := true, named := ["omnibus/crc.kinds"], apart := false, laid := [("omnibus/crc.kinds", laid_omnibus_crc_kinds)], narrowed := true }
def CrcBurstsUptoSaid : Prop := crcBurstsUptoRow.holds Tryd.pinned (OpenSpec.upto crcBurstsSpec)

/-- 'omnibuslaw02.CrcBelongs', WHERE WHAT IT READS IS OF BULK AT MOST 1048576: true; the input reads as it did. -/
def crcBelongsUptoRow : OpenClaim := { program := "ytmfahnfmahahjaadoor", sum := "8ff9e29266c3a425860bf2d23e6af95c7ebf71ea7c8c507568d01bac81bd796b", func := "omnibus/omnibuslaw02.CrcBelongs", spec := "crcBelongs", unfollowed := true, recurses := true, named := ["omnibus/crc.kinds"], apart := false, laid := [("omnibus/crc.kinds", laid_omnibus_crc_kinds)], narrowed := true }
def CrcBelongsUptoSaid : Prop := crcBelongsUptoRow.holds Tryd.pinned (OpenSpec.upto crcBelongsSpec)

end Rows
end Go.Proofs.YtmfahnfmahahjaaDoor
