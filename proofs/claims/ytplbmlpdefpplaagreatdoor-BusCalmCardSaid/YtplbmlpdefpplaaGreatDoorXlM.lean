
/- What an XL frame has at most, and what one that may be is in numbers. No conditions but the fields' own widths. -/
import Derived.Test.YtplbmlpdefpplaaGreatDoorXlP
namespace Go.Proofs.YtplbmlpdefpplaaGreatDoor
set_option linter.unusedVariables false
set_option linter.unusedSimpArgs false
open Go.RowKit
theorem zgp{s:Int}:z2K 3 s=true↔1<=s/\s<=2048:=by
 constructor
 ·intro h
  obtain⟨h1,h2⟩:=(z17 3 _).1 h
  have h3:z0r 3 s < 2048:=h1
  rw[at3]at h2
  omega
 ·rintro⟨h1,h2⟩
  obtain⟨n,rfl⟩:=Int.eq_ofNat_of_zero_le (show 0<=s by omega)
  have hc:n - 1 < z0R 3:=by show n - 1 < 2048;omega
  have h:=zaV 3 (n - 1) hc
  rw[at3]at h
  rwa[show((n - 1+1:Nat):Int)=(n:Int) by omega]at h
theorem z8t{n:Nat}(h:n<=16493):szF 8 false n<=20000:=by
 unfold szF
 split
 ·omega
 ·simp only[Bool.toNat_false]
  omega
theorem z4K {f:Hd} {l:List Nat} (h:okX f l=true) (hW:WdX f) :
    ∃(i d v A:Nat) (S:Bool),f=⟨3,(i:Int),false,false,false,false,S,(d:Int),(v:Int),(A:Int)⟩/\1<=l.length/\l.length<=2048/\i < 2048/\d < 256/\v < 256/\A < 4294967296/\bxC f l=z0z i d v A S l/\z3A f l=0/\f.I.toNat=i:=by
 obtain⟨i,ef,et,h1,h2,hi⟩:=z8d h hW.1
 obtain⟨w1,w2,w3,w4,w5,w6,w7⟩:=hW
 have e1:((f.D.toNat:Nat):Int)=f.D:=by omega
 have e2:((f.V.toNat:Nat):Int)=f.V:=by omega
 have e3:((f.A.toNat:Nat):Int)=f.A:=by omega
 exact⟨i,f.D.toNat,f.V.toNat,f.A.toNat,f.S,by rw[e1,e2,e3];exact ef,h1,h2,hi,by omega,by omega,by omega,by rw[bxC,if_pos h,et],by rw[z3A,if_pos h],et⟩
end Go.Proofs.YtplbmlpdefpplaaGreatDoor
