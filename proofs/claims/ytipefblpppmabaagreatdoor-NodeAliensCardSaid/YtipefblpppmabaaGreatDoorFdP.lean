
/- The bits of an FD frame as lists, ahead of all stuffing and on the wire. No conditions. -/
import Derived.Test.YtipefblpppmabaaGreatDoorWir
namespace Go.Proofs.YtipefblpppmabaaGreatDoor
set_option linter.unusedVariables false
set_option linter.unusedSimpArgs false
open Go.RowKit
def headD (i:Nat):List Nat:=[0]++(bitsN i 11++[0,0,1,0])
def bodyD (B E:Bool) (i:Nat) (l:List Nat):List Nat:=headD i++([bitB B,bitB E]++(bitsN (codeV 2 (l.length:Int)) 4++bytesBits l))
def kindD (n:Nat):Nat:=if 16 < n then 3 else 2
def sumD (n:Nat) (raw body:List Nat):List Nat:=tallyL (raw.length - body.length)++sumC (kindD n) (raw++tallyL (raw.length - body.length))
def fixD (n:Nat) (raw body:List Nat):List Nat:=fxPut 4 true (lastB raw) (sumD n raw body)
def okD (f:Hd) (l:List Nat):Bool:=f.K==2&&okF f l
def bdC (f:Hd) (l:List Nat):List Nat:=if okD f l then bodyD f.B f.E f.I.toNat l else []
def okDE (f:Hd) (l:List Nat):Nat:=if okD f l then 0 else 2
def rwD (f:Hd) (l:List Nat):List Nat:=putL (bdC f l)++fixD l.length (putL (bdC f l)) (bdC f l)
def wdC (f:Hd) (l:List Nat):List Nat:=if okD f l then rwD f l++ones 10 else []
def wArbD (f:Hd) (l:List Nat):Nat:=if okD f l then (putL (headD f.I.toNat)).length else 0
def wAckD (f:Hd) (l:List Nat):Nat:=if okD f l then (rwD f l).length+1 else 0
theorem headD_len (i:Nat):(headD i).length=16:=by simp[headD,bitsN_length]
theorem headD_bit (i:Nat):∀ x∈headD i,x<=1:=by
 intro x hx
 unfold headD at hx
 simp only[List.mem_append,List.mem_cons,List.not_mem_nil,or_false] at hx
 rcases hx with rfl | hx | (rfl | rfl | rfl | rfl)
 ·omega
 ·exact bitsN_le _ _ x hx
 all_goals omega
theorem bodyD_len (B E:Bool) (i:Nat) (l:List Nat):(bodyD B E i l).length=22+8*l.length:=by
 rw[bodyD,List.length_append,List.length_append,List.length_append,headD_len,bitsN_length,bytesBits_len]
 simp
 omega
theorem bodyD_bit (B E:Bool) (i:Nat) (l:List Nat):∀ x∈bodyD B E i l,x<=1:=by
 intro x hx
 have h1:=bitB_le B
 have h2:=bitB_le E
 unfold bodyD at hx
 simp only[List.mem_append,List.mem_cons,List.not_mem_nil,or_false] at hx
 rcases hx with hx | (rfl | rfl) | hx | hx
 ·exact headD_bit _ x hx
 ·exact h1
 ·exact h2
 ·exact bitsN_le _ _ x hx
 ·exact bytesBits_bit l x hx
theorem kindD_sz (n:Nat):szK (kindD n:Int)=if 16 < n then 21 else 17:=by
 unfold kindD
 split<;>decide
theorem sumD_len (n:Nat) (raw body:List Nat):(sumD n raw body).length=if 16 < n then 25 else 21:=by
 rw[sumD,List.length_append,tallyL_len,sumC_len,kindD_sz]
 split<;>omega
theorem sumC_bit (k:Int) (l:List Nat):∀ x∈sumC k l,x<=1:=bitsN_le _ _
theorem sumD_bit (n:Nat) (raw body:List Nat):∀ x∈sumD n raw body,x<=1:=by
 intro x hx
 rcases List.mem_append.1 hx with h | h
 ·exact tallyL_bit _ x h
 ·exact sumC_bit _ _ x h
theorem fixD_len (n:Nat) (raw body:List Nat):(fixD n raw body).length=szF 4 true (if 16 < n then 25 else 21):=by rw[fixD,fxPut_len,sumD_len]
theorem fixD_num (n:Nat) (raw body:List Nat):(fixD n raw body).length=if 16 < n then 32 else 27:=by
 rw[fixD_len]
 split<;>decide
theorem fixD_bit (n:Nat) (raw body:List Nat):∀ x∈fixD n raw body,x<=1:=fxPut_bit (sumD_bit _ _ _)
theorem has2 {n:Nat} (h:hasF 2 (n:Int)=true):n<=64/\codeV 2 (n:Int) < 16/\codeE 2 (n:Int)=0/\(atF 2 (codeV 2 (n:Int)):Int)=n:=by
 obtain⟨h1,h2⟩:=(hasF_iff 2 _).1 h
 have h3:fitF 2 (n:Int) < 16:=h1
 have e1:codeV 2 (n:Int)=fitF 2 (n:Int):=by rw[codeV,if_pos h]
 rw[e1]
 refine⟨?_,h3,by rw[codeE,if_pos h],h2⟩
 rcases at2 _ h3 with h4 | h4 | h4 | h4 | h4 | h4 | h4 | h4<;>omega
theorem okD_parts {f:Hd} {l:List Nat} (h:okD f l=true) (hI:0<=f.I) :
    ∃ i:Nat,f=⟨2,(i:Int),false,false,f.B,f.E,false,0,0,0⟩/\f.I.toNat=i/\hasF 2 (l.length:Int)=true/\i < 2048:=by
 obtain⟨K,I,X,R,B,E,S,D,V,A⟩:=f
 simp only[okD,Bool.and_eq_true,beq_iff_eq] at h
 obtain⟨rfl,h⟩:=h
 rw[okF_fd] at h
 simp only[okFd,Bool.and_eq_true,Bool.not_eq_true',decide_eq_true_eq,beq_iff_eq] at h
 obtain⟨hh,hi,rfl,rfl,rfl,rfl,rfl,rfl⟩:=h
 obtain⟨i,rfl⟩:=Int.eq_ofNat_of_zero_le (show 0<=I from hI)
 exact⟨i,by simp,by simp,hh,by omega⟩
theorem len64 {f:Hd} {l:List Nat} (h:okD f l=true):l.length<=64:=by
 simp only[okD,okF,Bool.and_eq_true,beq_iff_eq] at h
 rw[h.1] at h
 exact (has2 h.2.1).1
theorem bd_len {f:Hd} {l:List Nat} (h:okD f l=true):(bdC f l).length=22+8*l.length:=by rw[bdC,if_pos h,bodyD_len]
theorem bd_bit {f:Hd} {l:List Nat}:∀ x∈bdC f l,x<=1:=by
 unfold bdC
 split
 ·exact bodyD_bit _ _ _ _
 ·simp
theorem rw_bit {f:Hd} {l:List Nat}:∀ x∈rwD f l,x<=1:=by
 intro x hx
 rcases List.mem_append.1 hx with h | h
 ·exact putL_bit bd_bit x h
 ·exact fixD_bit _ _ _ x h
theorem rw_len (f:Hd) (l:List Nat):(rwD f l).length=(putL (bdC f l)).length+(if 16 < l.length then 32 else 27):=by rw[rwD,List.length_append,fixD_num]
theorem rw_runs (f:Hd) (l:List Nat):∀ k,(runS ((rwD f l).take k)).2<=5 :=
 (fx_runs (E:=4) (b:=5) (A:=true) (by omega) (by omega) (fun k=>okS_run (okS_take (okS_putL bd_bit) k)) (lastB_le (putL_bit bd_bit)) (.inl rfl) (sumD_bit _ _ _)).2
theorem wd_ends {f:Hd} {l:List Nat} (h:okD f l=true):∃ P:Nat,P=(rwD f l).length/\chk (wdC f l)=true/\(wdC f l).length=P+10/\34<=P/\P<=100000/\(wdC f l).getD 0 0=0 /\
    wAckD f l=P+1/\12<=wArbD f l/\wArbD f l+9<=P/\10<=(runS (wdC f l)).2/\(∀ k,k<=P->(runS ((wdC f l).take k)).2<=5):=by
 have hb:=bd_len h
 have h8:=len64 h
 have h2:=putL_len2 (bdC f l)
 have hr:=rw_len f l
 have hw:(wdC f l).length=(rwD f l).length+10:=by rw[wdC,if_pos h,List.length_append,ones_len]
 have e:bdC f l=headD f.I.toNat++([bitB f.B,bitB f.E]++(bitsN (codeV 2 (l.length:Int)) 4++bytesBits l)):=by rw[bdC,if_pos h,bodyD]
 refine⟨_,rfl,?_,hw,by split at hr<;>omega,by split at hr<;>omega,?_,by rw[wAckD,if_pos h],?_,?_,?_,?_⟩
 ·refine chk_of (fun x hx => ?_) (by rw[hw];split at hr<;>omega)
  rw[wdC,if_pos h] at hx
  rcases List.mem_append.1 hx with h1 | h1
  ·exact rw_bit x h1
  ·exact ones_bit _ x h1
 ·have h0:0 < (bdC f l).length:=by omega
  have hq:=(put_getD h0 (p:=0) (by simp[putL_nil,full_nil])).2.1
  rw[wdC,if_pos h,rwD,List.append_assoc,List.getD,List.getElem?_append_left (by omega),<- List.getD,hq,e]
  simp[headD]
 ·rw[wArbD,if_pos h]
  have:=(putL_len2 (headD f.I.toNat)).2
  rw[headD_len] at this
  omega
 ·rw[wArbD,if_pos h]
  have h1:=putL_more (headD f.I.toNat) ([bitB f.B,bitB f.E]++(bitsN (codeV 2 (l.length:Int)) 4++bytesBits l))
  rw[<- e] at h1
  split at hr<;>omega
 ·rw[wdC,if_pos h]
  by_cases h10:0 < 10
  ·exact (runS_ones _ 10 h10).1
  ·omega
 ·intro k hk
  rw[wdC,if_pos h,List.take_append_of_le_length hk]
  exact rw_runs f l k
end Go.Proofs.YtipefblpppmabaaGreatDoor
