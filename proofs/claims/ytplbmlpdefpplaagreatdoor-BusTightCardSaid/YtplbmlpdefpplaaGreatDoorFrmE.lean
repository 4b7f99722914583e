
/- What a frame is as a value; contracts of Same, identifiers, told, and the document's Same. No conditions. -/
import Derived.Test.YtplbmlpdefpplaaGreatDoorGf
set_option maxHeartbeats 8000000
set_option maxRecDepth 100000
namespace Go.Proofs.YtplbmlpdefpplaaGreatDoor
set_option linter.unusedVariables false
set_option linter.unusedSimpArgs false
open Go.RowKit
structure Hd where
 K:Int
 I:Int
 X:Bool
 R:Bool
 B:Bool
 E:Bool
 S:Bool
 D:Int
 V:Int
 A:Int
def Hd.cs(f:Hd)(v:Value):Array Value:=#[.int .i64 f.K,.int .u32 f.I,.bool f.X,.bool f.R,.bool f.B,.bool f.E,.bool f.S,.int .u8 f.D,.int .u8 f.V,.int .u32 f.A,v]
def Hd.eqb(f g:Hd):Bool:=f.K==g.K&&(f.I==g.I&&(f.X==g.X&&(f.R==g.R&&(f.B==g.B&&(f.E==g.E&&(f.S==g.S&&(f.D==g.D&&(f.V==g.V&&f.A==g.A))))))))
def z7G(f g:Hd)(l l':List Nat):Bool:=f.eqb g&&decide (l=l')
theorem zd5 (f g:Hd) (a a':Option Addr) (cap cap':Nat) (l l':List Nat) (w:World) (h:Bs w a cap l) (h':Bs w a' cap' l') :
    Calls Tryz.prog 9 #[.agg (f.cs (.slice a l.length cap)),.agg (g.cs (.slice a' l'.length cap'))] w fun e w'=>e = .returned (.bool (z7G f g l l'))/\Nb w w':=by
 obtain⟨K,I,X,R,B,E,S,D,V,A⟩:=f
 obtain⟨K',I',X',R',B',E',S',D',V',A'⟩:=g
 simp only[Hd.cs]
 have H:=zH h
 have H':=zH h'
 clear h h'
 go_enter Tryz.func9,Tryz.ntmps9
 go_wp2_with fail
 all_goals first
  | (refine(zbE _ _ _ _ _ _ _ (H.out.below ((Nb.rfl.al _).al _)) (H'.out.below ((Nb.rfl.al _).al _))).mono ?_
     rintro e w1 ⟨rfl,rfl⟩
     go_wp2
     go_ret
     exact⟨by simp_all [z7G,Hd.eqb],((Nb.rfl.al _).al _)⟩)
  | (go_ret
     exact⟨by simp_all [z7G,Hd.eqb],(Nb.rfl.al _).al _⟩)
end Go.Proofs.YtplbmlpdefpplaaGreatDoor
