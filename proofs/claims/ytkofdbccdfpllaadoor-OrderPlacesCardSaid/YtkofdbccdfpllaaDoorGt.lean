/- Contracts of the document's Full, Stuffed and Put. No conditions. Contracts of the document's Stuffed, Put, Split, Get, Count and Take. No conditions. -/
import Derived.Test.YtkofdbccdfpllaaDoorGs
namespace Go.Proofs.YtkofdbccdfpllaaDoor
set_option linter.unusedVariables false
set_option linter.unusedSimpArgs false
open Go.RowKit
theorem OwnB.last {w:World} {v:Value} {l:List Nat} (h:OwnB w v l) (hl:0 < l.length):∃ g cap,v = .slice (some ⟨g,0,none⟩) l.length cap/\w.cell? ⟨g,l.length - 1,none⟩=some (.int .u8 (lastB l:Nat)):=by
 obtain⟨g,cap,rfl⟩:=h.shape hl
 refine⟨g,cap,rfl,?_⟩
 rw[lastB_getD]
 exact h.cell (l.length - 1) (by omega)
theorem full_pos {l:List Nat} (h:full l=true):5<=l.length:=((full_iff l).1 h).1
end Go.Proofs.YtkofdbccdfpllaaDoor
