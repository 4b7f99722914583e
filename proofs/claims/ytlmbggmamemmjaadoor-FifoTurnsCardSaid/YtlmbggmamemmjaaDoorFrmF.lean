
/- Contract of the document Same of two frames. No conditions. -/
import Derived.Test.YtlmbggmamemmjaaDoorFrmE
set_option maxHeartbeats 8000000
set_option maxRecDepth 100000
namespace Go.Proofs.YtlmbggmamemmjaaDoor
set_option linter.unusedVariables false
set_option linter.unusedSimpArgs false
open Go.RowKit
theorem refsame5_any (f g:Hd) (a a':Option Addr) (cap cap':Nat) (l l':List Nat) (w:World) (h:Bs w a cap l) (h':Bs w a' cap' l') :
    Calls Tryd.prog 14 #[.agg (f.cs (.slice a l.length cap)),.agg (g.cs (.slice a' l'.length cap'))] w fun e w'=>e = .returned (.bool (sameF f g l l'))/\Nb w w':=by
 obtain⟨K,I,X,R,B,E,S,D,V,A⟩:=f
 obtain⟨K',I',X',R',B',E',S',D',V',A'⟩:=g
 simp only[Hd.cs]
 have H:=Lib.hid h
 have H':=Lib.hid h'
 clear h h'
 go_enter Tryd.func14,Tryd.ntmps14
 go_wp2_with fail
 all_goals first
  | (refine (same_any _ _ _ _ _ _ _ (H.out.below ((Nb.rfl.al _).al _)) (H'.out.below ((Nb.rfl.al _).al _))).mono ?_
     rintro e w1 ⟨rfl,n1⟩
     go_wp2
     go_ret
     exact⟨by simp_all [sameF,Hd.eqb],((Nb.rfl.al _).al _).tr n1⟩)
  | (go_ret
     exact⟨by simp_all [sameF,Hd.eqb],(Nb.rfl.al _).al _⟩)
end Go.Proofs.YtlmbggmamemmjaaDoor
