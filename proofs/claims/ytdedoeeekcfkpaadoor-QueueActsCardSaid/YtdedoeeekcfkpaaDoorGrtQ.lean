
/- The law's great of layer 14: what its answer false says. No conditions. -/
import Derived.Test.YtdedoeeekcfkpaaDoorActQ
set_option maxHeartbeats 1600000
set_option maxRecDepth 100000
namespace Go.Proofs.YtdedoeeekcfkpaaDoor
set_option linter.unusedVariables false
set_option linter.unusedSimpArgs false
open Go.RowKit
theorem ActsQ.at {w:World} {b o cap:Nat} {xs:List ActQ} (h:ActsQ w (some ⟨b,o,none⟩) cap xs) {j:Nat} (hj:j < xs.length) {k n:Int} {K I:Int} {X R B E S:Bool} {D V A:Int} {l:List Nat} (hf:xs.getD j dQ=⟨k,n,⟨K,I,X,R,B,E,S,D,V,A⟩,l⟩) :
    ∃ a' c',∀ w',Nb w w'->(w'.cell? ⟨b,o+j*13,none⟩=some (.int .i64 k)/\w'.cell? ⟨b,o+j*13+1,none⟩=some (.int .i64 n)/\w'.cell? ⟨b,o+j*13+2,none⟩=some (.int .i64 K)/\w'.cell? ⟨b,o+j*13+3,none⟩=some (.int .u32 I)/\w'.cell? ⟨b,o+j*13+4,none⟩=some (.bool X)/\w'.cell? ⟨b,o+j*13+5,none⟩=some (.bool R)/\w'.cell? ⟨b,o+j*13+6,none⟩=some (.bool B)/\w'.cell? ⟨b,o+j*13+7,none⟩=some (.bool E)/\w'.cell? ⟨b,o+j*13+8,none⟩=some (.bool S)/\w'.cell? ⟨b,o+j*13+9,none⟩=some (.int .u8 D)/\w'.cell? ⟨b,o+j*13+10,none⟩=some (.int .u8 V)/\w'.cell? ⟨b,o+j*13+11,none⟩=some (.int .u32 A)/\w'.cell? ⟨b,o+j*13+12,none⟩=some (.slice a' l.length c')) /\
     (⟨k,n,⟨K,I,X,R,B,E,S,D,V,A⟩,l⟩:ActQ).Wd/\Bs w' a' c' l/\(a'=none->c'=0):=by
 obtain⟨b',o',e',hc⟩:=h.hcells (by omega)
 simp only[Option.some.injEq,Addr.mk.injEq,and_true] at e'
 obtain⟨rfl,rfl⟩:=e'
 obtain⟨a',c',h1,h2,h3,h4⟩:=hc j hj
 rw[hf] at h1 h2 h3
 refine⟨a',c',fun w' hb => ?_⟩
 have tr:∀ {i:Nat} {u:Value},w.cell? ⟨b,i,none⟩=some u->w'.cell? ⟨b,i,none⟩=some u:=fun {i u} q=>by
  rw[hb.cell (p:=⟨b,i,none⟩) (World.block_lt_of_cell? _ _ q)]
  exact q
 exact⟨⟨tr (h1 0 _ rfl),tr (h1 1 _ rfl),tr (h1 2 _ rfl),tr (h1 3 _ rfl),tr (h1 4 _ rfl),tr (h1 5 _ rfl),tr (h1 6 _ rfl),tr (h1 7 _ rfl),tr (h1 8 _ rfl),tr (h1 9 _ rfl),tr (h1 10 _ rfl),tr (h1 11 _ rfl),tr (h1 12 _ rfl)⟩,h2,h3.below hb,h4⟩
theorem great14_any (a:Option Addr) (cap:Nat) (xs:List ActQ) (w:World) (h:ActsQ w a cap xs) :
    Calls Tryd.prog 10 #[.slice a xs.length cap] w fun e w'=>∃ r,e = .returned (.bool r)/\(r=false->xs.length<=200)/\Nb w w':=by
 have hl2:=h.len
 have H:=Lib.hid h
 clear h
 go_enter Tryd.func10,Tryd.ntmps10
 go_wp2
 go_loopw [3,8] (fun sv ix wr=>∃ (k:Nat) (v:Int),k<=xs.length/\ix = .int .i64 k/\sv = .int .i64 v/\Nb w wr) (fun _ ix _=>xs.length - (intOf ix).toNat)
 case atStart=>exact⟨0,0,Nat.zero_le _,rfl,rfl,Nb.rfl⟩
 case round =>
  obtain⟨k,v,hk,rfl,rfl,hN⟩:=hrel
  have N:=Lib.hid hN
  clear hN
  by_cases hlt:k < xs.length
  ·have hlt':decide ((k:Int) < (xs.length:Int))=true:=decide_eq_true (by omega)
   obtain⟨⟨ak,an,⟨K,I,X,R,B,E,S,D,V,A⟩,l⟩,hx⟩:∃ x,xs.getD k dQ=x:=⟨_,rfl⟩
   obtain⟨b,o,rfl,_⟩:=H.out.hcells (by omega)
   obtain⟨p,c,hcl⟩:=H.out.at hlt hx
   obtain⟨⟨x0,x1,x2,x3,x4,x5,x6,x7,x8,x9,x10,x11,x12⟩,_,hb,_⟩:=hcl wr N.out
   have hL:=hb.len
   clear hx hb hcl
   go_wp2
   go_roundw
   case rel=>exact⟨k+1,_,by omega,by go_num,rfl,by first | exact N.out.al _ | exact (N.out.al _).al _⟩
   case measure=>simp[intOf];omega
  have hlt':decide ((k:Int) < (xs.length:Int))=false:=decide_eq_false (by omega)
  obtain rfl:k=xs.length:=by omega
  clear hlt hk
  by_cases h2:200 < xs.length
  ·have d2:decide ((200:Int) < (xs.length:Int))=true:=decide_eq_true (by omega)
   clear h2
   go_wp2
   go_ret
   exact⟨true,rfl,fun e=>(by cases e),N.out⟩
  have d2:decide ((200:Int) < (xs.length:Int))=false:=decide_eq_false (by omega)
  have hh:=Lib.hid (show xs.length<=200 by omega)
  clear h2
  go_wp2
  go_ret
  exact⟨_,rfl,fun _=>hh.out,N.out⟩
end Go.Proofs.YtdedoeeekcfkpaaDoor
