
/- Whether acts are more than are looked at (layer 13). No conditions. -/
import Derived.Test.YtkjjfnmeogpdbaaGreatDoorActB
import Derived.Test.YtkjjfnmeogpdbaaGreatDoorBlO
set_option maxHeartbeats 3200000
set_option maxRecDepth 100000
namespace Go.Proofs.YtkjjfnmeogpdbaaGreatDoor
set_option linter.unusedVariables false
set_option linter.unusedSimpArgs false
open Go.RowKit
theorem ActsB.at {w:World} {b o cap:Nat} {xs:List ActB} (h:ActsB w (some ⟨b,o,none⟩) cap xs) {j:Nat} (hj:j < xs.length) {k i:Int} {K I:Int} {X R B E S:Bool} {D V A:Int} {l:List Nat} {n t:Int} (hf:xs.getD j dA=⟨k,i,⟨K,I,X,R,B,E,S,D,V,A⟩,l,n,t⟩) :
    ∃a' c',(w.cell? ⟨b,o+j*15,none⟩=some (.int .i64 k)/\w.cell? ⟨b,o+j*15+1,none⟩=some (.int .i64 i)/\w.cell? ⟨b,o+j*15+2,none⟩=some (.int .i64 K)/\w.cell? ⟨b,o+j*15+3,none⟩=some (.int .u32 I)/\w.cell? ⟨b,o+j*15+4,none⟩=some (.bool X)/\w.cell? ⟨b,o+j*15+5,none⟩=some (.bool R)/\w.cell? ⟨b,o+j*15+6,none⟩=some (.bool B)/\w.cell? ⟨b,o+j*15+7,none⟩=some (.bool E)/\w.cell? ⟨b,o+j*15+8,none⟩=some (.bool S)/\w.cell? ⟨b,o+j*15+9,none⟩=some (.int .u8 D)/\w.cell? ⟨b,o+j*15+10,none⟩=some (.int .u8 V)/\w.cell? ⟨b,o+j*15+11,none⟩=some (.int .u32 A)/\w.cell? ⟨b,o+j*15+12,none⟩=some (.slice a' l.length c')/\w.cell? ⟨b,o+j*15+13,none⟩=some (.int .u8 n)/\w.cell? ⟨b,o+j*15+14,none⟩=some (.int .u32 t)) /\
     (⟨k,i,⟨K,I,X,R,B,E,S,D,V,A⟩,l,n,t⟩:ActB).Wd/\Bs w a' c' l/\(a'=none->c'=0):=by
 obtain⟨b',o',e,hc⟩:=h.hcells (by omega)
 simp only[Option.some.injEq,Addr.mk.injEq,and_true]at e
 obtain⟨rfl,rfl⟩:=e
 obtain⟨a',c',h1,h2,h4,h5⟩:=hc j hj
 rw[hf]at h1 h2 h4
 exact⟨a',c',⟨h1 0 _ rfl,h1 1 _ rfl,h1 2 _ rfl,h1 3 _ rfl,h1 4 _ rfl,h1 5 _ rfl,h1 6 _ rfl,h1 7 _ rfl,h1 8 _ rfl,h1 9 _ rfl,h1 10 _ rfl,h1 11 _ rfl,h1 12 _ rfl,h1 13 _ rfl,h1 14 _ rfl⟩,h2,h4,h5⟩
theorem great13_any (a a':Option Addr) (cap cap':Nat) (kns:List Bool) (xs:List ActB) (w:World) (h:Bls w a cap kns) (h':ActsB w a' cap' xs) :
    Calls Tryz.prog 10 #[.slice a kns.length cap,.slice a' xs.length cap'] w fun e w'=>∃r,e = .returned (.bool r)/\(r=false->xs.length<=30/\¬(6 < kns.length/\kns.length<=16))/\Nb w w':=by
 have hl1:=h.len
 have hl2:=h'.len
 have H:=zH h'
 clear h h'
 go_enter Tryz.func10,Tryz.ntmps10
 go_wp2
 go_loopw [5,10] (fun sv ix wr=>∃(k:Nat) (v:Int),k<=xs.length/\ix = .int .i64 k/\sv = .int .i64 v/\Nb w wr) (fun _ ix _=>xs.length - (intOf ix).toNat)
 case atStart=>exact⟨0,0,Nat.zero_le _,rfl,rfl,Nb.rfl⟩
 case round =>
  obtain⟨k,v,hk,rfl,rfl,hN⟩:=hrel
  have N:=zH hN
  clear hN
  by_cases hlt:k < xs.length
  ·have hlt':decide ((k:Int) < (xs.length:Int))=true:=decide_eq_true (by omega)
   obtain⟨⟨ak,ai,⟨K,I,X,R,B,E,S,D,V,A⟩,l,n,t⟩,hx⟩:∃x,xs.getD k dA=x:=⟨_,rfl⟩
   obtain⟨b,o,rfl,_⟩:=(H.out.below N.out).hcells (by omega)
   obtain⟨p,c,⟨x0,x1,x2,x3,x4,x5,x6,x7,x8,x9,x10,x11,x12,x13,x14⟩,_,hb,_⟩:=(H.out.below N.out).at hlt hx
   have hL:=hb.len
   clear hx hb
   go_wp2
   go_roundw
   case rel=>exact⟨k+1,_,by omega,by go_num,rfl,by first | exact N.out.al _ | exact(N.out.al _).al _⟩
   case measure=>simp[intOf];omega
  have hlt':decide ((k:Int) < (xs.length:Int))=false:=decide_eq_false (by omega)
  obtain rfl:k=xs.length:=by omega
  clear hlt hk
  by_cases h30:30 < xs.length
  ·have d30:decide ((30:Int) < (xs.length:Int))=true:=decide_eq_true (by omega)
   clear h30
   go_wp2
   go_ret
   exact⟨true,rfl,fun e=>(by cases e),N.out⟩
  have d30:decide ((30:Int) < (xs.length:Int))=false:=decide_eq_false (by omega)
  by_cases h6:6 < kns.length
  ·have d6:decide ((6:Int) < (kns.length:Int))=true:=decide_eq_true (by omega)
   by_cases h16:kns.length<=16
   ·have d16:decide ((kns.length:Int)<=16)=true:=decide_eq_true (by omega)
    clear h6 h16 h30
    go_wp2
    go_ret
    exact⟨true,rfl,fun e=>(by cases e),N.out⟩
   ·have d16:decide ((kns.length:Int)<=16)=false:=decide_eq_false (by omega)
    have P:=zH (show xs.length<=30/\¬(6 < kns.length/\kns.length<=16) by omega)
    clear h6 h16 h30
    go_wp2
    go_ret
    exact⟨_,rfl,fun _=>P.out,N.out⟩
  ·have d6:decide ((6:Int) < (kns.length:Int))=false:=decide_eq_false (by omega)
   have P:=zH (show xs.length<=30/\¬(6 < kns.length/\kns.length<=16) by omega)
   clear h6 h30
   go_wp2
   go_ret
   exact⟨_,rfl,fun _=>P.out,N.out⟩
end Go.Proofs.YtkjjfnmeogpdbaaGreatDoor
