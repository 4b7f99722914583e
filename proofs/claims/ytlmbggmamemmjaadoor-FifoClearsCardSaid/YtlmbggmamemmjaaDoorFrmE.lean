
/- What a frame is as a value; contracts of Same, identifiers, told, and the document's Same. No conditions. -/
import Derived.Test.YtlmbggmamemmjaaDoorGf
import Derived.Test.YtlmbggmamemmjaaDoorGa
import Derived.RegionTactic
set_option maxHeartbeats 8000000
set_option maxRecDepth 100000
namespace Go.Proofs.YtlmbggmamemmjaaDoor
set_option linter.unusedVariables false
set_option linter.unusedSimpArgs false
open Go.RowKit
structure Hd where
 K:Int
 I:Int
 X:Bool
 R:Bool
 B:Bool
 E:Bool
 S:Bool
 D:Int
 V:Int
 A:Int
def Hd.cs (f:Hd) (v:Value):Array Value:=#[.int .i64 f.K,.int .u32 f.I,.bool f.X,.bool f.R,.bool f.B,.bool f.E,.bool f.S,.int .u8 f.D,.int .u8 f.V,.int .u32 f.A,v]
def Hd.eqb (f g:Hd):Bool:=f.K==g.K&&(f.I==g.I&&(f.X==g.X&&(f.R==g.R&&(f.B==g.B&&(f.E==g.E&&(f.S==g.S&&(f.D==g.D&&(f.V==g.V&&f.A==g.A))))))))
theorem Hd.eqb_iff (f g:Hd):f.eqb g=true↔f=g:=by
 obtain⟨K,I,X,R,B,E,S,D,V,A⟩:=f
 obtain⟨K',I',X',R',B',E',S',D',V',A'⟩:=g
 simp[Hd.eqb]
theorem Hd.eqb_rfl (f:Hd):f.eqb f=true:=(Hd.eqb_iff f f).2 rfl
def sameF (f g:Hd) (l l':List Nat):Bool:=f.eqb g&&decide (l=l')
theorem sameF_iff (f g:Hd) (l l':List Nat):sameF f g l l'=true↔f=g/\l=l':=by simp[sameF,Hd.eqb_iff]
theorem sameF_rfl (f:Hd) (l:List Nat):sameF f f l l=true:=(sameF_iff f f l l).2 ⟨rfl,rfl⟩
theorem same5_any (f g:Hd) (a a':Option Addr) (cap cap':Nat) (l l':List Nat) (w:World) (h:Bs w a cap l) (h':Bs w a' cap' l') :
    Calls Tryd.prog 23 #[.agg (f.cs (.slice a l.length cap)),.agg (g.cs (.slice a' l'.length cap'))] w fun e w'=>e = .returned (.bool (sameF f g l l'))/\Nb w w':=by
 obtain⟨K,I,X,R,B,E,S,D,V,A⟩:=f
 obtain⟨K',I',X',R',B',E',S',D',V',A'⟩:=g
 simp only[Hd.cs]
 have H:=Lib.hid h
 have H':=Lib.hid h'
 clear h h'
 go_enter Tryd.func23,Tryd.ntmps23
 go_wp2_with fail
 all_goals first
  | (refine (bequal_any _ _ _ _ _ _ _ (H.out.below ((Nb.rfl.al _).al _)) (H'.out.below ((Nb.rfl.al _).al _))).mono ?_
     rintro e w1 ⟨rfl,rfl⟩
     go_wp2
     go_ret
     exact⟨by simp_all [sameF,Hd.eqb],((Nb.rfl.al _).al _)⟩)
  | (go_ret
     exact⟨by simp_all [sameF,Hd.eqb],(Nb.rfl.al _).al _⟩)
end Go.Proofs.YtlmbggmamemmjaaDoor
