
/- The document's Same and Sames of layer 14, of the same items. No conditions. -/
import Derived.Test.YtdedoeeekcfkpaaDoorGqa
import Derived.Test.YtdedoeeekcfkpaaDoorFrmF
import Derived.Deep.RegionHeld3
set_option maxHeartbeats 3200000
set_option maxRecDepth 100000
namespace Go.Proofs.YtdedoeeekcfkpaaDoor
set_option linter.unusedVariables false
set_option linter.unusedSimpArgs false
open Go.RowKit
theorem Blk.c12 {w:World} {R:Nat} {v0 v1 v2 v3 v4 v5 v6 v7 v8 v9 v10 v11:Value} {t:TypeId} (h:Blk w R #[v0,v1,v2,v3,v4,v5,v6,v7,v8,v9,v10,v11] t) :
    w.cell? ⟨R,0,none⟩=some v0/\w.cell? ⟨R,1,none⟩=some v1/\w.cell? ⟨R,2,none⟩=some v2/\w.cell? ⟨R,3,none⟩=some v3/\w.cell? ⟨R,4,none⟩=some v4/\w.cell? ⟨R,5,none⟩=some v5/\w.cell? ⟨R,6,none⟩=some v6/\w.cell? ⟨R,7,none⟩=some v7/\w.cell? ⟨R,8,none⟩=some v8/\w.cell? ⟨R,9,none⟩=some v9/\w.cell? ⟨R,10,none⟩=some v10/\w.cell? ⟨R,11,none⟩=some v11 :=
 ⟨h.cell 0,h.cell 1,h.cell 2,h.cell 3,h.cell 4,h.cell 5,h.cell 6,h.cell 7,h.cell 8,h.cell 9,h.cell 10,h.cell 11⟩
theorem same14_any (x:It) (a a':Option Addr) (c c':Nat) (w:World) (h:Bs w a c x.l) (h':Bs w a' c' x.l) :
    Calls Tryd.prog 14 #[itV x (.slice a x.l.length c),itV x (.slice a' x.l.length c')] w fun e w'=>e = .returned (.bool true)/\Nb w w':=by
 obtain⟨nx,⟨Kx,Ix,Xx,Rx,Bx,Ex,Sx,Dx,Vx,Ax⟩,lx⟩:=x
 have hs:=fun w' (n:Nb w w')=>refsame5_any ⟨Kx,Ix,Xx,Rx,Bx,Ex,Sx,Dx,Vx,Ax⟩ ⟨Kx,Ix,Xx,Rx,Bx,Ex,Sx,Dx,Vx,Ax⟩ a a' c c' lx lx w' (h.below n) (h'.below n)
 rw[sameF_rfl] at hs
 simp only[itV,itA,Hd.cs] at hs ⊢
 have HS:=Lib.hid hs
 clear h h' hs
 go_enter Tryd.func14,Tryd.ntmps14
 go_wp2_with fail
 refine (HS.out _ ((Nb.rfl.al _).al _)).mono ?_
 rintro e w1 ⟨rfl,n1⟩
 go_wp2
 go_ret
 exact⟨rfl,((Nb.rfl.al _).al _).tr n1⟩
theorem sames14_any (es:List It) (a a':Option Addr) (c c':Nat) (P P':Nat->Prop) (w:World) (h:ItsAt w a c es P) (h':ItsAt w a' c' es P') :
    Calls Tryd.prog 22 #[.slice a es.length c,.slice a' es.length c'] w fun e w'=>e = .returned (.bool true)/\Nb w w':=by
 have H:=Lib.hid h
 have H':=Lib.hid h'
 have hL:=h.len
 clear h h'
 go_enter Tryd.func22,Tryd.ntmps22
 go_wp2
 go_loopw [13] (fun ix wr=>∃ k:Nat,k<=es.length/\ix = .int .i64 k/\Nb w wr) (fun ix _=>es.length - (intOf ix).toNat)
 case atStart=>exact⟨0,Nat.zero_le _,rfl,Nb.rfl⟩
 case round =>
  obtain⟨k,hk,rfl,hn⟩:=hrel
  have N:=Lib.hid hn
  clear hn
  by_cases hlt:k < es.length
  ·have hlt':decide ((k:Int) < (es.length:Int))=true:=decide_eq_true (by omega)
   obtain⟨⟨nx,⟨Kx,Ix,Xx,Rx,Bx,Ex,Sx,Dx,Vx,Ax⟩,lx⟩,hx⟩:∃ x,es.getD k dI=x:=⟨_,rfl⟩
   obtain⟨b,of,rfl,_⟩:=H.out.hcells (by omega)
   obtain⟨b',of',rfl,_⟩:=H'.out.hcells (by omega)
   obtain⟨pa,pc,hw⟩:=H.out.atW hlt hx
   obtain⟨pa',pc',hw'⟩:=H'.out.atW hlt hx
   have hs:=fun w' (n:Nb w w')=>same14_any ⟨nx,⟨Kx,Ix,Xx,Rx,Bx,Ex,Sx,Dx,Vx,Ax⟩,lx⟩ pa pa' pc pc' w' (hw w' n).2.1 (hw' w' n).2.1
   simp only[itV,itA] at hs
   have HS:=Lib.hid hs
   have HW:=Lib.hid (fun w' (n:Nb w w')=>(hw w' n).1)
   have HW':=Lib.hid (fun w' (n:Nb w w')=>(hw' w' n).1)
   have NB:=Lib.hid (N.out.tr (Nb.drewN wr 1):Nb w wr.drew)
   obtain⟨v0,v1,v2,v3,v4,v5,v6,v7,v8,v9,v10,v11⟩:=HW.out _ NB.out
   obtain⟨u0,u1,u2,u3,u4,u5,u6,u7,u8,u9,u10,u11⟩:=HW'.out _ NB.out
   clear hx hw hw' hs
   go_wp2_with fail
   go_region_held3 (fun w'=>(w'.cell? ⟨b,of+k*12,none⟩=some (.int .i64 nx)/\w'.cell? ⟨b,of+k*12+1,none⟩=some (.int .i64 Kx)/\w'.cell? ⟨b,of+k*12+2,none⟩=some (.int .u32 Ix)/\w'.cell? ⟨b,of+k*12+3,none⟩=some (.bool Xx)/\w'.cell? ⟨b,of+k*12+4,none⟩=some (.bool Rx)/\w'.cell? ⟨b,of+k*12+5,none⟩=some (.bool Bx)/\w'.cell? ⟨b,of+k*12+6,none⟩=some (.bool Ex)/\w'.cell? ⟨b,of+k*12+7,none⟩=some (.bool Sx)/\w'.cell? ⟨b,of+k*12+8,none⟩=some (.int .u8 Dx)/\w'.cell? ⟨b,of+k*12+9,none⟩=some (.int .u8 Vx)/\w'.cell? ⟨b,of+k*12+10,none⟩=some (.int .u32 Ax)/\w'.cell? ⟨b,of+k*12+11,none⟩=some (.slice pa lx.length pc))/\(w'.cell? ⟨b',of'+k*12,none⟩=some (.int .i64 nx)/\w'.cell? ⟨b',of'+k*12+1,none⟩=some (.int .i64 Kx)/\w'.cell? ⟨b',of'+k*12+2,none⟩=some (.int .u32 Ix)/\w'.cell? ⟨b',of'+k*12+3,none⟩=some (.bool Xx)/\w'.cell? ⟨b',of'+k*12+4,none⟩=some (.bool Rx)/\w'.cell? ⟨b',of'+k*12+5,none⟩=some (.bool Bx)/\w'.cell? ⟨b',of'+k*12+6,none⟩=some (.bool Ex)/\w'.cell? ⟨b',of'+k*12+7,none⟩=some (.bool Sx)/\w'.cell? ⟨b',of'+k*12+8,none⟩=some (.int .u8 Dx)/\w'.cell? ⟨b',of'+k*12+9,none⟩=some (.int .u8 Vx)/\w'.cell? ⟨b',of'+k*12+10,none⟩=some (.int .u32 Ax)/\w'.cell? ⟨b',of'+k*12+11,none⟩=some (.slice pa' lx.length pc'))) (first | go_keep | exact⟨HW.out _ NB.out,HW'.out _ NB.out⟩)
    ((go_at_call 14;refine (HS.out _ NB.out).mono ?_;rintro e w1 ⟨rfl,n1⟩;have NB:=Lib.hid (NB.out.tr n1);clear n1))
   go_wp2
   go_roundw
   case rel=>exact⟨k+1,by omega,by go_num,NB.out⟩
   case measure=>simp[intOf];omega
  ·have hlt':decide ((k:Int) < (es.length:Int))=false:=decide_eq_false (by omega)
   go_wp2
   go_ret
   exact⟨rfl,N.out⟩
end Go.Proofs.YtdedoeeekcfkpaaDoor
