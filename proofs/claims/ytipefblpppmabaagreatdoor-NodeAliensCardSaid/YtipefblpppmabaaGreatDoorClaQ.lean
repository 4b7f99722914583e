
/- What the laws on wires ask of a frame's bits on the wire. No conditions. -/
import Derived.Test.YtipefblpppmabaaGreatDoorClaP
namespace Go.Proofs.YtipefblpppmabaaGreatDoor
set_option linter.unusedVariables false
set_option linter.unusedSimpArgs false
open Go.RowKit
theorem run_ones (X:List Nat) (k:Nat):k<=(runS (X++ones k)).2:=by
 by_cases h:k=0
 ·omega
 ·exact (runS_ones X k (by omega)).1
theorem head_zero (X R:Bool) (i:Nat) (T:List Nat):(headC X R i++T).getD 0 0=0:=by
 cases X<;>simp[headC]
theorem wire_ends {f:Hd} {l:List Nat} (h:okC f l=true):∃ P:Nat,P=(putL (bodyC f l)).length/\chk (wireC f l)=true/\(wireC f l).length=P+10/\34<=P/\P<=300/\(wireC f l).getD 0 0=0 /\
    wAckC f l=P+1/\12<=wArbC f l/\wArbC f l+9<=P/\10<=(runS (wireC f l)).2/\(runS ((wireC f l).take P)).2<=5:=by
 have hb:=body_len h
 have h8:=len8 h
 have h2:=putL_len2 (bodyC f l)
 have hw:=wire_len h
 refine⟨_,rfl,?_,hw,by split at hb<;>omega,by split at hb<;>omega,?_,by rw[wAckC,if_pos h],?_,?_,?_,?_⟩
 ·exact chk_of wire_bit (by split at hb<;>omega)
 ·have e:bodyC f l=headC f.X f.R f.I.toNat++(bitsN l.length 4++bytesBits l++sumC 1 (preC f.X f.R f.I.toNat l)):=by
   rw[bodyC,if_pos h,bodyN,preC];simp
  have h0:0 < (bodyC f l).length:=by split at hb<;>omega
  have:=(put_getD h0 (p:=0) (by simp[putL_nil,full_nil])).2.1
  rw[wireC,if_pos h,List.getD,List.getElem?_append_left (by omega),<- List.getD,this,e]
  exact head_zero _ _ _ _
 ·rw[wArbC,if_pos h]
  have:=(putL_len2 (headC f.X f.R f.I.toNat)).2
  rw[headC_len] at this
  split at this<;>omega
 ·rw[wArbC,if_pos h]
  have e:bodyC f l=headC f.X f.R f.I.toNat++(bitsN l.length 4++bytesBits l++sumC 1 (preC f.X f.R f.I.toNat l)):=by
   rw[bodyC,if_pos h,bodyN,preC];simp
  have:=putL_more (headC f.X f.R f.I.toNat) (bitsN l.length 4++bytesBits l++sumC 1 (preC f.X f.R f.I.toNat l))
  rw[<- e] at this
  have h3:(bitsN l.length 4++bytesBits l++sumC 1 (preC f.X f.R f.I.toNat l)).length=4+8*l.length+15:=by
   rw[List.length_append,List.length_append,bitsN_length,bytesBits_len,sumC_len]
   rfl
  omega
 ·rw[wireC,if_pos h]
  exact run_ones _ _
 ·exact wire_run h (Nat.le_refl _)
end Go.Proofs.YtipefblpppmabaaGreatDoor
