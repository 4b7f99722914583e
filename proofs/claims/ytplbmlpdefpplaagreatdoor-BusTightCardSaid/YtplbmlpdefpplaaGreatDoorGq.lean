/- Contracts of the document's Size, Raw, Put and Get of layer 4, and more. Conditions: as each says. -/
import Derived.Test.YtplbmlpdefpplaaGreatDoorGe
import Derived.Test.YtplbmlpdefpplaaGreatDoorGw
set_option maxHeartbeats 8000000
set_option maxRecDepth 100000
namespace Go.Proofs.YtplbmlpdefpplaaGreatDoor
set_option linter.unusedVariables false
set_option linter.unusedSimpArgs false
open Go.RowKit
theorem zbk(a b:Nat):Int.tmod (a:Int) (b:Int)=((a%b:Nat):Int):=by rw[Int.tmod_eq_emod_of_nonneg (by omega)];push_cast;rfl
theorem zml(q:Nat):((q:Int)==0)=decide (q=0):=by
 by_cases h:q=0
 ·subst h;rfl
 ·rw[decide_eq_false h,beq_eq_false_iff_ne];omega
theorem zd3(p:Nat)(P:List Nat):(p::P).getD P.length 0=z1l p P:=by
 unfold z1l
 by_cases h:P=[]
 ·subst h;rfl
 ·rw[if_neg h]
  have:0 < P.length:=List.length_pos_iff.2 h
  obtain⟨m,hm⟩:∃m,P.length=m+1:=⟨P.length - 1,by omega⟩
  rw[hm,Nat.add_sub_cancel]
  simp[List.getD]
theorem z04.one1(w:World)(x:Nat)(hx:x < 256):z04 (w.alloc (.cells #[.int .u8 (x:Int)] 5)) (.slice (some ⟨w.heap.size,0,none⟩) 1 1) [x] :=
 ⟨⟨by simp,.inr ⟨w.heap.size,1,#[.int .u8 (x:Int)],by simp,Nat.zero_le _,heap_alloc_new w _,by simp,by simp[maxLen],by simp,by simp⟩⟩,by simpa using hx⟩
theorem z6I (p:Nat) (a:Option Addr) (cap:Nat) (l:List Nat) (E:Nat) (A:Bool) (w:World) (hp:p<=1) (h:Bs w a cap l) (h1:1<=E) (h2:E<=64) (hc:chk l=true) :
    Calls Tryz.prog 52 #[.int .u8 p,.slice a l.length cap,.agg #[.int .i64 E,.bool A]] w fun e w'=>zmo (zv E A p l) e w'/\Nb w w':=by
 have hL:=h.len
 have hlen:=z1h hc
 have hbit:=zH (z0C hc)
 have H:=zH h
 have hE0:((E:Int)==0)=false:=by rw[beq_eq_false_iff_ne];omega
 obtain⟨w0,hw0⟩:∃w0,w0=w.alloc (.cells #[.int .i64 E,.bool A] 122):=⟨_,rfl⟩
 have hB:Blk w0 w.heap.size #[.int .i64 E,.bool A] 122:=by rw[hw0];exact Blk.new _ _ _
 have hn0:Nb w w0:=by rw[hw0];exact Nb.rfl.al _
 have hone:=z04.one1 w0 p (by omega)
 have hn1:Nb w0 (w0.alloc (.cells #[.int .u8 (p:Int)] 5)):=Nb.rfl.al _
 have hf0:zf w0 (w0.alloc (.cells #[.int .u8 (p:Int)] 5)) (.slice (some ⟨w0.heap.size,0,none⟩) 1 1) [p]:=⟨hone,fun g hg=>by simp[Value.ownBlock]at hg;omega⟩
 have HB:=zH hB
 have HN0:=zH hn0
 have HN1:=zH hn1
 have HF0:=zH hf0
 have HW0:=zH hw0
 clear h hc hB hn0 hn1 hf0 hone hw0
 go_enter Tryz.func52,Tryz.ntmps52
 go_wp2
 rw[<- HW0.out]
 go_loopw [7,14] (fun v i wr=>∃k:Nat,k<=l.length/\i = .int .i64 k/\zf w0 wr v (p::zv E A p (l.take k))/\Nb w0 wr) (fun _ i _=>l.length - (intOf i).toNat)
 case atStart=>exact⟨0,Nat.zero_le _,rfl,by simpa [HW0.out,zv]using HF0.out,by simpa [HW0.out]using HN1.out⟩
 case round =>
  obtain⟨k,hk,rfl,hfr,hnb⟩:=hrel
  by_cases hlt:k < l.length
  ·obtain⟨b,o,rfl,hcl⟩:=(H.out.below (HN0.out.tr hnb)).hcells (by omega)
   obtain⟨x,hx⟩:∃x,l[k]? = some x:=⟨l[k],by simp[hlt]⟩
   have c1:=hcl k hlt
   rw[show l.getD k 0=x from by simp[List.getD,hx]]at c1
   have hBr:=HB.out.nb hnb
   have e0:wr.cell? ⟨w.heap.size,0,none⟩=some (.int .i64 E):=hBr.cell 0
   have e1:wr.cell? ⟨w.heap.size,1,none⟩=some (.bool A):=hBr.cell 1
   have hx1:=hbit.out x (List.mem_of_getElem? hx)
   have hbT:∀y∈l.take k,y<=1:=fun y hy=>hbit.out y (List.mem_of_mem_take hy)
   have hlast:=z58 hp (z2e (E:=E) (A:=A) (p:=p) hbT)
   have hsz:=z7i E A k
   have hPl:=z1T (E:=E) A p (l.take k)
   have htl:(l.take k).length=k:=by rw[List.length_take];omega
   rw[htl]at hPl
   have htk:zv E A p (l.take (k+1))=if z2j E A k then zv E A p (l.take k)++[1 - z1l p (zv E A p (l.take k)),x]else zv E A p (l.take k)++[x]:=by
    rw[zX hx,z1L,htl]
   have hcl2:=zd3 p (zv E A p (l.take k))
   obtain⟨P',hPP⟩:∃P',zv E A p (l.take (k+1))=P':=⟨_,rfl⟩
   rw[hPP]at htk
   have HPP:=zH hPP
   clear hPP
   generalize zv E A p (l.take k)=P at *
   have hP:P.length<=140000:=by omega
   clear htl hcl hbT hPl hx hsz hBr
   obtain⟨g,cP,rfl⟩:=hfr.1.shape (by simp)
   have cl:wr.cell? ⟨g,P.length,none⟩=some (.int .u8 (z1l p P:Nat)):=by
    have:=hfr.1.cell P.length (by simp)
    rwa[hcl2]at this
   obtain⟨la,hla⟩:∃la,z1l p P=la:=⟨_,rfl⟩
   rw[hla]at cl hlast htk
   have hr:=zbk k E
   obtain⟨m,hm⟩:∃m,k%E=m:=⟨_,rfl⟩
   rw[hm]at hr
   have hmb:=zml m
   obtain⟨L,hL2⟩:∃L,p::P=L:=⟨_,rfl⟩
   have hL1:L.length=P.length+1:=by rw[<- hL2];rfl
   rw[show P.length=L.length - 1 from by omega]at cl
   rw[hL2]at hfr ⊢
   have hLn:L.length<=140001:=by omega
   have hLp:1<=L.length:=by omega
   have hdd:z2j E A k=if k=0 then A else decide (m=0):=by unfold z2j;rw[hm]
   have HTK:Hid (p::P'=if(if k=0 then A else decide (m=0)) then(L++[1 - la])++[x]else L++[x]):=zH (by rw[htk,<- hL2,<- hdd];split<;>simp)
   have HFR:=zH hfr
   have HNB:=zH hnb
   clear hfr hnb htk hcl2 hla hL2 hL1 hdd hm
   by_cases hk0:k=0
   ·rw[if_pos hk0]at HTK
    have dk1:¬0 < k:=by omega
    clear hr hmb hk0
    cases A with
    | true =>
      simp only[if_true]at HTK
      obtain⟨q,hq⟩:∃q,1 - la=q:=⟨_,rfl⟩
      have hq1:q<=1:=by omega
      have HQ:Hid ((1:Int) - (la:Int)=(q:Int)):=zH (by omega)
      rw[hq]at HTK
      have hal:Kp (fun _=>False) wr (wr.alloc (.cells #[.int .u8 ((1:Int) - (la:Int))] 5)):=Kp.alloc
      have hown:=HFR.out.1.keep hal (by simp)
      have hb1:Bs (wr.alloc (.cells #[.int .u8 ((1:Int) - (la:Int))] 5)) (some ⟨wr.heap.size,0,none⟩) 1 [q]:=by rw[HQ.out];exact Bs.one wr q (by omega) _
      have HB1:=zH hb1
      clear hb1 hal hq
      go_wp2_with (at_builtin;refine zd _ rfl (.tmp 36) (.tmp 44) rfl _ L rfl hown _ _ [q] 1 rfl rfl HB1.out (by simp) (by simp;omega) ?_)
      intro v5 w5 hown5 hk5 hf5
      have happ:=HFR.out.app HNB.out hown5 hk5 (by simpa using hf5)
      obtain⟨L2,hL2⟩:∃L2,L++[q]=L2:=⟨_,rfl⟩
      have hL2n:L2.length<=140002:=by rw[<- hL2,List.length_append,List.length_singleton];omega
      rw[hL2]at happ hown5 HTK
      obtain⟨a5,c5,rfl,-,-⟩:=hown5.bs
      have HA5:=zH happ
      have hal:Kp (fun _=>False) w5 (w5.alloc (.cells #[.int .u8 (x:Int)] 5)):=Kp.alloc
      have hownX:=hown5.keep hal (by simp)
      clear happ hown5 hk5 hf5 hown hal hL2 HB1 HFR
      go_wp2_with (at_builtin;refine zd _ rfl (.tmp 46) (.tmp 48) rfl _ L2 rfl hownX _ _ [x] 1 rfl rfl (Bs.one w5 x (by omega) _) (by simp) (by simp;omega) ?_)
      intro v9 w9 hown9 hk9 hf9
      have happ:=HA5.out.1.app HA5.out.2 hown9 hk9 (by simpa using hf9)
      have HA9:=zH happ
      clear happ hown9 hk9 hf9 hownX HA5
      go_wp2
      go_roundw
      case rel=>exact⟨k+1,by omega,by go_num,by rw[HPP.out,HTK.out];exact HA9.out.1,HA9.out.2⟩
      case measure=>simp[intOf];omega
    | false =>
      simp only[Bool.false_eq_true,if_false]at HTK
      have hal:Kp (fun _=>False) wr (wr.alloc (.cells #[.int .u8 (x:Int)] 5)):=Kp.alloc
      have hownX:=HFR.out.1.keep hal (by simp)
      clear hal
      go_wp2_with (at_builtin;refine zd _ rfl (.tmp 46) (.tmp 48) rfl _ L rfl hownX _ _ [x] 1 rfl rfl (Bs.one wr x (by omega) _) (by simp) (by simp;omega) ?_)
      intro v9 w9 hown9 hk9 hf9
      have happ:=HFR.out.app HNB.out hown9 hk9 (by simpa using hf9)
      have HA9:=zH happ
      clear happ hown9 hk9 hf9 hownX HFR
      go_wp2
      go_roundw
      case rel=>exact⟨k+1,by omega,by go_num,by rw[HPP.out,HTK.out];exact HA9.out.1,HA9.out.2⟩
      case measure=>simp[intOf];omega
   ·rw[if_neg hk0]at HTK
    have hkp:0 < k:=by omega
    clear hk0
    by_cases hm0:m=0
    ·rw[decide_eq_true hm0]at HTK hmb
     simp only[if_true]at HTK
     clear hm0
     obtain⟨q,hq⟩:∃q,1 - la=q:=⟨_,rfl⟩
     have hq1:q<=1:=by omega
     have HQ:Hid ((1:Int) - (la:Int)=(q:Int)):=zH (by omega)
     rw[hq]at HTK
     have hal:Kp (fun _=>False) wr (wr.alloc (.cells #[.int .u8 ((1:Int) - (la:Int))] 5)):=Kp.alloc
     have hown:=HFR.out.1.keep hal (by simp)
     have hb1:Bs (wr.alloc (.cells #[.int .u8 ((1:Int) - (la:Int))] 5)) (some ⟨wr.heap.size,0,none⟩) 1 [q]:=by rw[HQ.out];exact Bs.one wr q (by omega) _
     have HB1:=zH hb1
     clear hb1 hal hq
     go_wp2_with (at_builtin;refine zd _ rfl (.tmp 36) (.tmp 44) rfl _ L rfl hown _ _ [q] 1 rfl rfl HB1.out (by simp) (by simp;omega) ?_)
     intro v5 w5 hown5 hk5 hf5
     have happ:=HFR.out.app HNB.out hown5 hk5 (by simpa using hf5)
     obtain⟨L2,hL2⟩:∃L2,L++[q]=L2:=⟨_,rfl⟩
     have hL2n:L2.length<=140002:=by rw[<- hL2,List.length_append,List.length_singleton];omega
     rw[hL2]at happ hown5 HTK
     obtain⟨a5,c5,rfl,-,-⟩:=hown5.bs
     have HA5:=zH happ
     have hal:Kp (fun _=>False) w5 (w5.alloc (.cells #[.int .u8 (x:Int)] 5)):=Kp.alloc
     have hownX:=hown5.keep hal (by simp)
     clear happ hown5 hk5 hf5 hown hal hL2 HB1 HFR
     go_wp2_with (at_builtin;refine zd _ rfl (.tmp 46) (.tmp 48) rfl _ L2 rfl hownX _ _ [x] 1 rfl rfl (Bs.one w5 x (by omega) _) (by simp) (by simp;omega) ?_)
     intro v9 w9 hown9 hk9 hf9
     have happ:=HA5.out.1.app HA5.out.2 hown9 hk9 (by simpa using hf9)
     have HA9:=zH happ
     clear happ hown9 hk9 hf9 hownX HA5
     go_wp2
     go_roundw
     case rel=>exact⟨k+1,by omega,by go_num,by rw[HPP.out,HTK.out];exact HA9.out.1,HA9.out.2⟩
     case measure=>simp[intOf];omega
    ·rw[decide_eq_false hm0]at HTK hmb
     simp only[Bool.false_eq_true,if_false]at HTK
     clear hm0
     have hal:Kp (fun _=>False) wr (wr.alloc (.cells #[.int .u8 (x:Int)] 5)):=Kp.alloc
     have hownX:=HFR.out.1.keep hal (by simp)
     clear hal
     go_wp2_with (at_builtin;refine zd _ rfl (.tmp 46) (.tmp 48) rfl _ L rfl hownX _ _ [x] 1 rfl rfl (Bs.one wr x (by omega) _) (by simp) (by simp;omega) ?_)
     intro v9 w9 hown9 hk9 hf9
     have happ:=HFR.out.app HNB.out hown9 hk9 (by simpa using hf9)
     have HA9:=zH happ
     clear happ hown9 hk9 hf9 hownX HFR
     go_wp2
     go_roundw
     case rel=>exact⟨k+1,by omega,by go_num,by rw[HPP.out,HTK.out];exact HA9.out.1,HA9.out.2⟩
     case measure=>simp[intOf];omega
  ·obtain rfl:k=l.length:=by omega
   rw[List.take_of_length_le (Nat.le_refl _)]at hfr
   obtain⟨g,cP,rfl⟩:=hfr.1.shape (by simp)
   have hbs:=hfr.1.asBs.1
   have hc2:=hbs.hcap
   have hm2:=hbs.hmax
   unfold maxLen at hm2
   have ht:=hbs.tail 1 (by simp)
   simp only[List.drop_succ_cons,List.drop_zero]at ht
   have HT:=zH ht
   obtain⟨P,hP⟩:∃P,zv E A p l=P:=⟨_,rfl⟩
   rw[hP]at hc2 HT ⊢
   have HP:=zH hP
   simp only[List.length_cons]at hc2
   clear hfr hbs ht hP
   by_cases hcp:cP=1
   ·have HPn:Hid (P=[]):=zH (List.length_eq_zero_iff.1 (by omega))
    go_wp2
    go_ret
    rw[HP.out,HPn.out]
    exact⟨⟨some ⟨g,0,none⟩,0,rfl,⟨Nat.zero_le _,by simp[maxLen],by simp,by simp⟩⟩,HN0.out.tr hnb⟩
   ·go_wp2
    go_ret
    rw[HP.out]
    exact⟨⟨_,_,rfl,by simpa using HT.out⟩,HN0.out.tr hnb⟩
theorem Bs.fourAt{w:World}{b:Nat}{t:TypeId}{x y z u:Nat}(h:Blk w b #[.int .u8 (x:Int),.int .u8 (y:Int),.int .u8 (z:Int),.int .u8 (u:Int)] t)(hx:x < 256)(hy:y < 256)(hz:z < 256)(hu:u < 256):Bs w (some ⟨b,0,none⟩) 4 [x,y,z,u] :=
 ⟨Nat.le_refl _,by simp[maxLen],by simp[hx,hy,hz,hu],fun _=>⟨_,_,rfl,fun j hj=>by
  rw[Nat.zero_add]
  match j,hj with
  | 0,_=>exact h.cell 0
  | 1,_=>exact h.cell 1
  | 2,_=>exact h.cell 2
  | 3,_=>exact h.cell 3⟩⟩
theorem Blk.al{w:World}{R:Nat}{cs:Array Value}{t:TypeId}(h:Blk w R cs t)(o:Obj):Blk (w.alloc o) R cs t:=h.nb (Nb.rfl.al o)
def al1(w:World):World:=(w).alloc (.cells #[.int .u8 0,.int .u8 0,.int .u8 0,.int .u8 0] 5)
theorem zbm(w:World):(al1 w).heap.size=w.heap.size+1:=by unfold al1;simp
theorem zkD(w:World):Nb w (al1 w):=Nb.rfl.al _
def al2(w:World):World:=(al1 w).alloc (.cells #[.int .u8 0,.int .u8 0,.int .u8 1,.int .u8 1] 5)
theorem zaN(w:World):(al2 w).heap.size=w.heap.size+2:=by unfold al2;simp[zbm]
theorem zkn(w:World):Nb w (al2 w):=(zkD w).al _
def al3(w:World):World:=(al2 w).alloc (.cells #[.int .u8 0,.int .u8 1,.int .u8 1,.int .u8 0] 5)
theorem zb8(w:World):(al3 w).heap.size=w.heap.size+3:=by unfold al3;simp[zaN]
theorem zjU(w:World):Nb w (al3 w):=(zkn w).al _
def al4(w:World):World:=(al3 w).alloc (.cells #[.int .u8 0,.int .u8 1,.int .u8 0,.int .u8 1] 5)
theorem zb0(w:World):(al4 w).heap.size=w.heap.size+4:=by unfold al4;simp[zb8]
theorem zjW(w:World):Nb w (al4 w):=(zjU w).al _
def al5(w:World):World:=(al4 w).alloc (.cells #[.int .u8 1,.int .u8 1,.int .u8 0,.int .u8 0] 5)
theorem zb3(w:World):(al5 w).heap.size=w.heap.size+5:=by unfold al5;simp[zb0]
theorem zjS(w:World):Nb w (al5 w):=(zjW w).al _
def al6(w:World):World:=(al5 w).alloc (.cells #[.int .u8 1,.int .u8 1,.int .u8 1,.int .u8 1] 5)
theorem zbA(w:World):(al6 w).heap.size=w.heap.size+6:=by unfold al6;simp[zb3]
theorem zkO(w:World):Nb w (al6 w):=(zjS w).al _
def al7(w:World):World:=(al6 w).alloc (.cells #[.int .u8 1,.int .u8 0,.int .u8 1,.int .u8 0] 5)
theorem zg6(w:World):(al7 w).heap.size=w.heap.size+7:=by unfold al7;simp[zbA]
theorem zjT(w:World):Nb w (al7 w):=(zkO w).al _
def al8(w:World):World:=(al7 w).alloc (.cells #[.int .u8 1,.int .u8 0,.int .u8 0,.int .u8 1] 5)
theorem zkH(w:World):Nb w (al8 w):=(zjT w).al _
theorem ziH(w:World)(r:Nat)(h:r < 8):Bs (al8 w) (some ⟨w.heap.size+r,0,none⟩) 4 (zw r):=by
 rcases(by omega:r=0\/r=1\/r=2\/r=3\/r=4\/r=5\/r=6\/r=7)with rfl | rfl | rfl | rfl | rfl | rfl | rfl | rfl
 ·have h0:=Blk.new (w) #[.int .u8 0,.int .u8 0,.int .u8 0,.int .u8 0] 5
  exact Bs.fourAt (x:=0) (y:=0) (z:=0) (u:=0) (t:=5) (((((((h0.al _).al _).al _).al _).al _).al _).al _) (by decide) (by decide) (by decide) (by decide)
 ·have h0:=Blk.new (al1 w) #[.int .u8 0,.int .u8 0,.int .u8 1,.int .u8 1] 5
  rw[zbm]at h0
  exact Bs.fourAt (x:=0) (y:=0) (z:=1) (u:=1) (t:=5) ((((((h0.al _).al _).al _).al _).al _).al _) (by decide) (by decide) (by decide) (by decide)
 ·have h0:=Blk.new (al2 w) #[.int .u8 0,.int .u8 1,.int .u8 1,.int .u8 0] 5
  rw[zaN]at h0
  exact Bs.fourAt (x:=0) (y:=1) (z:=1) (u:=0) (t:=5) (((((h0.al _).al _).al _).al _).al _) (by decide) (by decide) (by decide) (by decide)
 ·have h0:=Blk.new (al3 w) #[.int .u8 0,.int .u8 1,.int .u8 0,.int .u8 1] 5
  rw[zb8]at h0
  exact Bs.fourAt (x:=0) (y:=1) (z:=0) (u:=1) (t:=5) ((((h0.al _).al _).al _).al _) (by decide) (by decide) (by decide) (by decide)
 ·have h0:=Blk.new (al4 w) #[.int .u8 1,.int .u8 1,.int .u8 0,.int .u8 0] 5
  rw[zb0]at h0
  exact Bs.fourAt (x:=1) (y:=1) (z:=0) (u:=0) (t:=5) (((h0.al _).al _).al _) (by decide) (by decide) (by decide) (by decide)
 ·have h0:=Blk.new (al5 w) #[.int .u8 1,.int .u8 1,.int .u8 1,.int .u8 1] 5
  rw[zb3]at h0
  exact Bs.fourAt (x:=1) (y:=1) (z:=1) (u:=1) (t:=5) ((h0.al _).al _) (by decide) (by decide) (by decide) (by decide)
 ·have h0:=Blk.new (al6 w) #[.int .u8 1,.int .u8 0,.int .u8 1,.int .u8 0] 5
  rw[zbA]at h0
  exact Bs.fourAt (x:=1) (y:=0) (z:=1) (u:=0) (t:=5) (h0.al _) (by decide) (by decide) (by decide) (by decide)
 ·have h0:=Blk.new (al7 w) #[.int .u8 1,.int .u8 0,.int .u8 0,.int .u8 1] 5
  rw[zg6]at h0
  exact Bs.fourAt (x:=1) (y:=0) (z:=0) (u:=1) (t:=5) h0 (by decide) (by decide) (by decide) (by decide)
theorem zc8 (n:Nat) (w:World) (hr:Int.tmod (n:Int) 8=0) :
    Calls Tryz.prog 49 #[.int .i64 n] w fun e w'=>e = .returned (.tuple #[.slice (some ⟨w.heap.size+0,0,none⟩) 4 4,.int .i64 0])/\w'=al8 w:=by
 have d1:decide ((n:Int) < 0)=false:=by simp
 have hidx:∀(s0 s1 s2 s3 s4 s5 s6 s7:Value) (w:World),(Instr.index 152 (.agg #[s0,s1,s2,s3,s4,s5,s6,s7]) (.int .i64 0)).run Tryz.prog w = .ok s0 w:=by
  intro s0 s1 s2 s3 s4 s5 s6 s7 w
  kernel_rfl
 go_enter Tryz.func49,Tryz.ntmps49
 go_wp2
 go_ret2
 exact⟨rfl,rfl⟩
theorem zbN (n:Nat) (w:World) (hr:Int.tmod (n:Int) 8=1) :
    Calls Tryz.prog 49 #[.int .i64 n] w fun e w'=>e = .returned (.tuple #[.slice (some ⟨w.heap.size+1,0,none⟩) 4 4,.int .i64 0])/\w'=al8 w:=by
 have d1:decide ((n:Int) < 0)=false:=by simp
 have hidx:∀(s0 s1 s2 s3 s4 s5 s6 s7:Value) (w:World),(Instr.index 152 (.agg #[s0,s1,s2,s3,s4,s5,s6,s7]) (.int .i64 1)).run Tryz.prog w = .ok s1 w:=by
  intro s0 s1 s2 s3 s4 s5 s6 s7 w
  kernel_rfl
 go_enter Tryz.func49,Tryz.ntmps49
 go_wp2
 go_ret2
 exact⟨rfl,rfl⟩
theorem zbQ (n:Nat) (w:World) (hr:Int.tmod (n:Int) 8=2) :
    Calls Tryz.prog 49 #[.int .i64 n] w fun e w'=>e = .returned (.tuple #[.slice (some ⟨w.heap.size+2,0,none⟩) 4 4,.int .i64 0])/\w'=al8 w:=by
 have d1:decide ((n:Int) < 0)=false:=by simp
 have hidx:∀(s0 s1 s2 s3 s4 s5 s6 s7:Value) (w:World),(Instr.index 152 (.agg #[s0,s1,s2,s3,s4,s5,s6,s7]) (.int .i64 2)).run Tryz.prog w = .ok s2 w:=by
  intro s0 s1 s2 s3 s4 s5 s6 s7 w
  kernel_rfl
 go_enter Tryz.func49,Tryz.ntmps49
 go_wp2
 go_ret2
 exact⟨rfl,rfl⟩
theorem zbU (n:Nat) (w:World) (hr:Int.tmod (n:Int) 8=3) :
    Calls Tryz.prog 49 #[.int .i64 n] w fun e w'=>e = .returned (.tuple #[.slice (some ⟨w.heap.size+3,0,none⟩) 4 4,.int .i64 0])/\w'=al8 w:=by
 have d1:decide ((n:Int) < 0)=false:=by simp
 have hidx:∀(s0 s1 s2 s3 s4 s5 s6 s7:Value) (w:World),(Instr.index 152 (.agg #[s0,s1,s2,s3,s4,s5,s6,s7]) (.int .i64 3)).run Tryz.prog w = .ok s3 w:=by
  intro s0 s1 s2 s3 s4 s5 s6 s7 w
  kernel_rfl
 go_enter Tryz.func49,Tryz.ntmps49
 go_wp2
 go_ret2
 exact⟨rfl,rfl⟩
theorem zci (n:Nat) (w:World) (hr:Int.tmod (n:Int) 8=4) :
    Calls Tryz.prog 49 #[.int .i64 n] w fun e w'=>e = .returned (.tuple #[.slice (some ⟨w.heap.size+4,0,none⟩) 4 4,.int .i64 0])/\w'=al8 w:=by
 have d1:decide ((n:Int) < 0)=false:=by simp
 have hidx:∀(s0 s1 s2 s3 s4 s5 s6 s7:Value) (w:World),(Instr.index 152 (.agg #[s0,s1,s2,s3,s4,s5,s6,s7]) (.int .i64 4)).run Tryz.prog w = .ok s4 w:=by
  intro s0 s1 s2 s3 s4 s5 s6 s7 w
  kernel_rfl
 go_enter Tryz.func49,Tryz.ntmps49
 go_wp2
 go_ret2
 exact⟨rfl,rfl⟩
theorem zc7 (n:Nat) (w:World) (hr:Int.tmod (n:Int) 8=5) :
    Calls Tryz.prog 49 #[.int .i64 n] w fun e w'=>e = .returned (.tuple #[.slice (some ⟨w.heap.size+5,0,none⟩) 4 4,.int .i64 0])/\w'=al8 w:=by
 have d1:decide ((n:Int) < 0)=false:=by simp
 have hidx:∀(s0 s1 s2 s3 s4 s5 s6 s7:Value) (w:World),(Instr.index 152 (.agg #[s0,s1,s2,s3,s4,s5,s6,s7]) (.int .i64 5)).run Tryz.prog w = .ok s5 w:=by
  intro s0 s1 s2 s3 s4 s5 s6 s7 w
  kernel_rfl
 go_enter Tryz.func49,Tryz.ntmps49
 go_wp2
 go_ret2
 exact⟨rfl,rfl⟩
theorem zc5 (n:Nat) (w:World) (hr:Int.tmod (n:Int) 8=6) :
    Calls Tryz.prog 49 #[.int .i64 n] w fun e w'=>e = .returned (.tuple #[.slice (some ⟨w.heap.size+6,0,none⟩) 4 4,.int .i64 0])/\w'=al8 w:=by
 have d1:decide ((n:Int) < 0)=false:=by simp
 have hidx:∀(s0 s1 s2 s3 s4 s5 s6 s7:Value) (w:World),(Instr.index 152 (.agg #[s0,s1,s2,s3,s4,s5,s6,s7]) (.int .i64 6)).run Tryz.prog w = .ok s6 w:=by
  intro s0 s1 s2 s3 s4 s5 s6 s7 w
  kernel_rfl
 go_enter Tryz.func49,Tryz.ntmps49
 go_wp2
 go_ret2
 exact⟨rfl,rfl⟩
theorem zbC (n:Nat) (w:World) (hr:Int.tmod (n:Int) 8=7) :
    Calls Tryz.prog 49 #[.int .i64 n] w fun e w'=>e = .returned (.tuple #[.slice (some ⟨w.heap.size+7,0,none⟩) 4 4,.int .i64 0])/\w'=al8 w:=by
 have d1:decide ((n:Int) < 0)=false:=by simp
 have hidx:∀(s0 s1 s2 s3 s4 s5 s6 s7:Value) (w:World),(Instr.index 152 (.agg #[s0,s1,s2,s3,s4,s5,s6,s7]) (.int .i64 7)).run Tryz.prog w = .ok s7 w:=by
  intro s0 s1 s2 s3 s4 s5 s6 s7 w
  kernel_rfl
 go_enter Tryz.func49,Tryz.ntmps49
 go_wp2
 go_ret2
 exact⟨rfl,rfl⟩
theorem z4p (n:Nat) (w:World) :
    Calls Tryz.prog 49 #[.int .i64 n] w fun e w'=>z9H (zw n) 0 e w'/\Nb w w':=by
 have hr:Int.tmod (n:Int) 8=((n%8:Nat):Int):=zbk n 8
 have h8:=Nat.mod_lt n (show 0 < 8 by omega)
 rw[zcM]
 generalize n%8=r at *
 have hfin:∀e w',(e = .returned (.tuple #[.slice (some ⟨w.heap.size+r,0,none⟩) 4 4,.int .i64 0])/\w'=al8 w)->z9H (zw r) 0 e w'/\Nb w w':=by
  rintro e w' ⟨rfl,rfl⟩
  exact⟨⟨_,_,by rw[z05];rfl,ziH w r h8⟩,zkH w⟩
 rcases(by omega:r=0\/r=1\/r=2\/r=3\/r=4\/r=5\/r=6\/r=7)with rfl | rfl | rfl | rfl | rfl | rfl | rfl | rfl
 ·exact(zc8 n w hr).mono hfin
 ·exact(zbN n w hr).mono hfin
 ·exact(zbQ n w hr).mono hfin
 ·exact(zbU n w hr).mono hfin
 ·exact(zci n w hr).mono hfin
 ·exact(zc7 n w hr).mono hfin
 ·exact(zc5 n w hr).mono hfin
 ·exact(zbC n w hr).mono hfin
theorem zar (f:Hd) (a:Option Addr) (cap:Nat) (l:List Nat) (w:World) (hL:l.length<=9223372036854775807) (hK:(f.K==1)=false) :
    Calls Tryz.prog 61 #[.agg (f.cs (.slice a l.length cap))] w fun e w'=>z9H [] 2 e w'/\Nb w w':=by
 obtain⟨K,I,X,R,B,E,S,D,V,A⟩:=f
 simp only[Hd.cs]
 have d:(K != 1)=true:=by simpa [bne]using hK
 clear hK
 go_enter Tryz.func61,Tryz.ntmps61
 go_wp2
 go_ret2
 exact⟨⟨_,_,rfl,Bs.nil _⟩,Nb.rfl.al _⟩
theorem z96 (f:Hd) (a:Option Addr) (cap:Nat) (l:List Nat) (w:World) (hL:l.length<=9223372036854775807) (hK:f.K=1) (ho:okF f l=false) :
    Calls Tryz.prog 61 #[.agg (f.cs (.slice a l.length cap))] w fun e w'=>z9H [] 2 e w'/\Nb w w':=by
 have hc:=z0L f a cap l (w.alloc (.cells (f.cs (.slice a l.length cap)) 37)) hL
 rw[show zt f l=2 by simp[zt,ho]]at hc
 obtain⟨K,I,X,R,B,E,S,D,V,A⟩:=f
 simp only at hK
 subst hK
 simp only[Hd.cs]at hc ⊢
 have HC:=zH hc
 clear hc ho
 go_enter Tryz.func61,Tryz.ntmps61
 go_wp2_with fail
 refine HC.out.mono ?_
 rintro e w1 ⟨rfl,n1⟩
 go_wp2
 go_ret2
 exact⟨⟨_,_,rfl,Bs.nil _⟩,(Nb.rfl.al _).tr n1⟩
theorem z9Q (X R:Bool) (i:Nat) (a:Option Addr) (cap:Nat) (l:List Nat) (w:World) (h:Bs w a cap l) (hn:a=none->cap=0) (hok:okC ⟨1,(i:Int),X,R,false,false,false,0,0,0⟩ l=true) :
    Calls Tryz.prog 61 #[.agg (Hd.cs ⟨1,(i:Int),X,R,false,false,false,0,0,0⟩ (.slice a l.length cap))] w fun e w'=>z9H (zS X R i l) 0 e w'/\Nb w w':=by
 have hL:=h.len
 obtain⟨j,_,ej,h8,_,hx,hi⟩:=z1u hok (Int.natCast_nonneg i)
 have ej':i=j:=by simpa using ej
 subst ej'
 have hokF:okF ⟨1,(i:Int),X,R,false,false,false,0,0,0⟩ l=true:=by simpa [okC]using hok
 have P1:=zH (fun w'=>by
  have:=z0L ⟨1,(i:Int),X,R,false,false,false,0,0,0⟩ a cap l w' hL
  rw[show zt ⟨1,(i:Int),X,R,false,false,false,0,0,0⟩ l=0 by simp[zt,hokF]]at this
  simp only[Hd.cs]at this
  exact this)
 have P2:=zH (fun(dv:Value) w'=>z4x X R i 1 false false false 0 0 0 dv w' hi)
 have P3:=zH (fun w'=>z06 l.length 4 w' (by omega) (by omega))
 have P4:=zH (fun w' (n:Nb w w')=>z3t a cap l w' (h.below n) (by omega))
 have hpl:(z1q X R i l).length<=10000:=by rw[z3d];split<;>omega
 have hch:chk (z1q X R i l)=true:=z0g (z53 X R i l) (by omega)
 have hsum:=z2Y (k:=1) (l:=z1q X R i l) (by decide) hch
 have hne:0 < (z1q X R i l).length:=by rw[z3d];split<;>omega
 have P5:=zH (fun w' (a':Option Addr) (c':Nat) (hb:Bs w' a' c' (z1q X R i l))=>by
  have:=z4R 1 a' c' (z1q X R i l) w' hb (by rintro rfl;have h2:=hb.none_len;rw[h2]at hne;simp at hne)
  rw[hsum.1,hsum.2,show z1q X R i l++z1R 1 (z1q X R i l)=zS X R i l from rfl]at this
  exact this)
 have hhl2:(zJ X R i).length<=35:=by rw[z2b];split<;>omega
 have HEQ:=zH (show zJ X R i++(zc l.length 4++ze l)=z1q X R i l from rfl)
 have HB4:=zH (zb l.length 4)
 have HB8:=zH (zN l)
 have HN:=zH hn
 have e64:IntKind.u64.wrap (l.length:Int)=l.length:=by rw[IntKind.wrap_u64];omega
 clear h hok hokF hx hi hch hsum hn hpl hne
 simp only[Hd.cs]
 obtain⟨w1,hw1⟩:∃w1,w1=w.alloc (.cells #[.int .i64 1,.int .u32 i,.bool X,.bool R,.bool false,.bool false,.bool false,.int .u8 0,.int .u8 0,.int .u32 0,.slice a l.length cap] 37):=⟨_,rfl⟩
 have B1:=zH (show Blk w1 w.heap.size #[.int .i64 1,.int .u32 i,.bool X,.bool R,.bool false,.bool false,.bool false,.int .u8 0,.int .u8 0,.int .u32 0,.slice a l.length cap] 37 by rw[hw1];exact Blk.new _ _ _)
 have NW:=zH (show Nb w w1 by rw[hw1];exact Nb.rfl.al _)
 go_enter Tryz.func61,Tryz.ntmps61
 go_wp2_with fail
 rw[<- hw1]
 clear hw1
 refine(P1.out _).mono ?_
 rintro e w2 ⟨rfl,n2⟩
 have N2:=zH n2
 obtain⟨c0,c1,c2,c3,c4,c5,c6,c7,c8,c9,c10⟩:=(B1.out.nb n2).c11
 clear n2
 go_wp2_with fail
 have NB:RowKit.Hid (Nb w1 w2.drew):=zH (N2.out.tr (show Nb w2 w2.drew from Nb.drewN w2 1))
 go_region_held3 (fun w'=>w'.cell? ⟨w.heap.size,0,none⟩=some (.int .i64 1)/\w'.cell? ⟨w.heap.size,1,none⟩=some (.int .u32 i)/\w'.cell? ⟨w.heap.size,2,none⟩=some (.bool X)/\w'.cell? ⟨w.heap.size,3,none⟩=some (.bool R)/\w'.cell? ⟨w.heap.size,4,none⟩=some (.bool false)/\w'.cell? ⟨w.heap.size,5,none⟩=some (.bool false)/\w'.cell? ⟨w.heap.size,6,none⟩=some (.bool false)/\w'.cell? ⟨w.heap.size,7,none⟩=some (.int .u8 0)/\w'.cell? ⟨w.heap.size,8,none⟩=some (.int .u8 0)/\w'.cell? ⟨w.heap.size,9,none⟩=some (.int .u32 0)/\w'.cell? ⟨w.heap.size,10,none⟩=some (.slice a l.length cap)) (first | go_keep | exact(B1.out.nb NB.out).c11)
  (first
   | (refine z1P _ rfl (.tmp 14) (.tmp 19) rfl (.slice a5 (zJ X R i).length d5) (zJ X R i) (by simp[Act.eval,Act.put]) ?_ a6 d6 (zc l.length 4) 4 HB4.out.symm (by simp[Act.eval,Act.put]) ?_ (by rw[HB4.out];omega) (by rw[HB4.out];omega) ?_
      ·first
        | exact(F5.out _ Nb.rfl).1
        | exact(F5.out _ M6.out).1
      ·first
        | exact F6.out _ Nb.rfl
        | exact F6.out _ M5.out
      intro v7 w7 ho hk hg
      have f57:=zf.app0 (by first | exact F5.out _ Nb.rfl | exact F5.out _ M6.out) NB.out ho hk hg
      have F7:=zH f57.1
      have NB:=zH f57.2
      clear ho hk hg f57)
   | (go_at_call 62
      refine(P2.out _ _).mono ?_
      rintro e w5 ⟨⟨a5,d5,rfl,f5⟩,n5⟩
      have s5:=NB.out.size
      have F5:=zH (fun w' (n:Nb w5 w')=>(f5.keep n).less s5)
      have M5:=zH n5
      have NB:=zH (NB.out.tr n5)
      clear f5 n5 s5)
   | (go_at_call 83
      refine(P3.out _).mono ?_
      rintro e w6 ⟨⟨a6,d6,rfl,b6⟩,n6⟩
      have F6:=zH (fun w' (n:Nb w6 w')=>b6.below n)
      have M6:=zH n6
      have NB:=zH (NB.out.tr n6)
      clear b6 n6))
 have N7:=zH NB.out
 obtain⟨c0,c1,c2,c3,c4,c5,c6,c7,c8,c9,c10⟩:=(B1.out.nb N7.out).c11
 clear NB
 go_wp2_with fail
 refine(P4.out _ (NW.out.tr N7.out)).mono ?_
 rintro e w8 ⟨⟨a8,d8,rfl,b8,z8⟩,n8⟩
 have hf8:=F7.out.keep n8
 have hn8:=N7.out.tr n8
 have b8':Bs w8 a8 d8 (ze l):=b8
 have q8:a8=none->8*l.length=0/\d8=0:=fun h0=>⟨by
  subst h0
  have h3:=b8'.none_len
  have h4:=HB8.out
  rw[h3]at h4
  simp at h4
  omega,z8 h0⟩
 clear n8 b8 z8
 go_wp2_with (at_builtin;refine zd _ rfl (.tmp 21) (.tmp 24) rfl v7 _ rfl hf8.1 a8 d8 (ze l) (8*l.length) HB8.out.symm rfl b8' q8 (by rw[List.length_append,HB4.out,HB8.out];omega) ?_)
 intro v9 w9 ho hk hg
 have f89:=hf8.app0 hn8 ho hk hg
 rw[HEQ.out]at f89
 obtain⟨a9,d9,rfl,b9,_⟩:=f89.1.1.bs
 have B9:=zH b9
 have N9:=zH f89.2
 clear ho hk hg f89 b9 hf8 hn8 b8' q8 c0 c1 c2 c3 c4 c5 c6 c7 c8 c9 c10
 go_wp2_with fail
 refine(P5.out _ a9 d9 B9.out).mono ?_
 rintro e w10 ⟨⟨a10,d10,rfl,b10⟩,n10⟩
 have B10:=zH b10
 clear b10
 go_wp2
 go_ret2
 exact⟨⟨a10,d10,rfl,B10.out⟩,(NW.out.tr N9.out).tr n10⟩
theorem z4s (f:Hd) (a:Option Addr) (cap:Nat) (l:List Nat) (w:World) (h:Bs w a cap l) (hn:a=none->cap=0) (hI:0<=f.I) :
    Calls Tryz.prog 61 #[.agg (f.cs (.slice a l.length cap))] w fun e w'=>z9H (zT f l) (okE f l) e w'/\Nb w w':=by
 cases hok:okC f l with
 | true =>
   obtain⟨i,ef,et,_⟩:=z1u hok hI
   rw[show zT f l=zS f.X f.R i l by rw[zT,if_pos hok,et],show okE f l=0 by rw[okE,if_pos hok]]
   have hok2:okC ⟨1,(i:Int),f.X,f.R,false,false,false,0,0,0⟩ l=true:=by rw[<- ef];exact hok
   have:=z9Q f.X f.R i a cap l w h hn hok2
   rw[<- ef]at this
   exact this
 | false =>
   rw[show zT f l=[] by simp[zT,hok],show okE f l=2 by simp[okE,hok]]
   cases hK:f.K==1 with
   | false=>exact zar f a cap l w h.len hK
   | true=>exact z96 f a cap l w h.len (by simpa using hK) (by simpa [okC,hK]using hok)
theorem z8q (f:Hd) (a:Option Addr) (cap:Nat) (l:List Nat) (w:World) (h:Bs w a cap l) (hn:a=none->cap=0) (hI:0<=f.I) (hok:okC f l=false) :
    Calls Tryz.prog 27 #[.agg (f.cs (.slice a l.length cap))] w fun e w'=>z4B w [] 0 0 2 e w'/\Nb w w':=by
 have hL:=h.len
 have hp:=fun w' (n:Nb w w')=>z4s f a cap l w' (h.below n) hn hI
 rw[show zT f l=[] by simp[zT,hok],show okE f l=2 by simp[okE,hok]]at hp
 obtain⟨K,I,X,R,B,E,S,D,V,A⟩:=f
 simp only[Hd.cs]at hp ⊢
 have HP:=zH hp
 clear hp h hI hok
 go_enter Tryz.func27,Tryz.ntmps27
 go_wp2_with fail
 refine(HP.out _ ((Nb.rfl.al _).al _)).mono ?_
 rintro e w1 ⟨⟨a1,c1,rfl,f1⟩,n1⟩
 have m1:Nb w w1:=((Nb.rfl.al _).al _).tr n1
 have hx:=(Blk.new (w.alloc (.cells #[.int .i64 K,.int .u32 I,.bool X,.bool R,.bool B,.bool E,.bool S,.int .u8 D,.int .u8 V,.int .u32 A,.slice a l.length cap] 37)) #[.slice none 0 0,.int .i64 0,.int .i64 0] 52).nb n1
 rw[World.size_alloc]at hx
 obtain⟨d0,d1,d2⟩:=hx.c3
 obtain⟨g0,g1,g2⟩:=hx.f3
 have HB:=zH (z0n (v0 := .slice none 0 0) (v1 := .int .i64 0) (v2 := .int .i64 0) hx)
 have HW:=zH (z0P m1 (b:=w.heap.size+1) (by omega) (.slice none 0 0) (.int .i64 0) (.int .i64 0))
 clear f1 n1 hx m1
 go_wp2
 change bodyPost _ _ _ _ _ (put3 w1 (w.heap.size+1) (.slice none 0 0) (.int .i64 0) (.int .i64 0))
 generalize put3 w1 (w.heap.size+1) (.slice none 0 0) (.int .i64 0) (.int .i64 0)=W at *
 obtain⟨e0,e1,e2⟩:=HB.out.c3
 exact bodyPost_ret (v := .tuple #[.agg #[.slice none 0 0,.int .i64 0,.int .i64 0],.int .i64 2]) (by simp[results,Tryz.results27,go_sem,e0,e1,e2]) rfl ⟨⟨none,0,rfl,z04.nil _,fun g hg=>by cases hg⟩,HW.out⟩
theorem zae (f:Hd) (a:Option Addr) (cap:Nat) (l:List Nat) (w:World) (h:Bs w a cap l) (hn:a=none->cap=0) (hI:0<=f.I) (hok:okC f l=true) :
    Calls Tryz.prog 27 #[.agg (f.cs (.slice a l.length cap))] w fun e w'=>z4B w (z0M f l) (z1S f l) (z27 f l) 0 e w'/\Nb w w':=by
 have hL:=h.len
 obtain⟨i,ef,et,h8,_,hx,hi⟩:=z1u hok hI
 have hp:=fun w' (n:Nb w w')=>z4s f a cap l w' (h.below n) hn hI
 have hbl:=z6P hok
 have hb1:(zT f l).length<=200:=by rw[hbl];split<;>omega
 have hch:chk (zT f l)=true:=z0g z54 (by omega)
 have hhl:(zJ f.X f.R f.I.toNat).length<=35:=by rw[z2b];split<;>omega
 have hch2:chk (zJ f.X f.R f.I.toNat)=true:=z0g (z7X _ _ _) (by omega)
 rw[show z0M f l=zh (zT f l)++ones 10 by rw[z0M,if_pos hok],show z1S f l=(zh (zJ f.X f.R f.I.toNat)).length by rw[z1S,if_pos hok],show z27 f l=(zh (zT f l)).length+1 by rw[z27,if_pos hok]]
 rw[show okE f l=0 by rw[okE,if_pos hok]]at hp
 have hp2:=fun w' (a':Option Addr) (c':Nat) (hb:Bs w' a' c' (zT f l))=>z1n a' c' (zT f l) w' hb hch
 have hp3:=fun w' (a':Option Addr) (c':Nat) (hb:Bs w' a' c' (zJ f.X f.R f.I.toNat))=>z1n a' c' (zJ f.X f.R f.I.toNat) w' hb hch2
 have hp4:=fun w'=>z4x f.X f.R i f.K f.B f.E f.S f.D f.V f.A (.slice a l.length cap) w' hi
 rw[<- et]at hp4
 have eI:((f.I.toNat:Nat):Int)=f.I:=by omega
 rw[eI]at hp4
 have hpl:=(zr (zT f l)).1
 have hpl2:(zh (zT f l)).length<=1000:=by omega
 have hpl3:=(zr (zJ f.X f.R f.I.toNat)).1
 have hpl4:(zh (zJ f.X f.R f.I.toNat)).length<=1000:=by omega
 have HP:=zH hp
 have HP2:=zH hp2
 have HP3:=zH hp3
 have HP4:=zH hp4
 clear hp hp2 hp3 hp4 h hI hok hch hch2 hbl hpl hpl3 hx hi et ef hhl eI hb1 h8
 generalize zT f l=L at *
 obtain⟨K,I,X,R,B,E,S,D,V,A⟩:=f
 simp only[Hd.cs]at HP HP2 HP3 HP4 hpl2 hpl4 ⊢
 generalize zJ X R I.toNat=H at *
 generalize zh L=P at *
 generalize zh H=PH at *
 obtain⟨w0,hw0⟩:∃w0,w0=(w.alloc (.cells #[.int .i64 K,.int .u32 I,.bool X,.bool R,.bool B,.bool E,.bool S,.int .u8 D,.int .u8 V,.int .u32 A,.slice a l.length cap] 37)).alloc (.cells #[.slice none 0 0,.int .i64 0,.int .i64 0] 52):=⟨_,rfl⟩
 have B0:=zH (show Blk w0 w.heap.size _ _ by rw[hw0];exact(Blk.new w #[.int .i64 K,.int .u32 I,.bool X,.bool R,.bool B,.bool E,.bool S,.int .u8 D,.int .u8 V,.int .u32 A,.slice a l.length cap] 37).nb (Nb.rfl.al _))
 have hx0:=Blk.new (w.alloc (.cells #[.int .i64 K,.int .u32 I,.bool X,.bool R,.bool B,.bool E,.bool S,.int .u8 D,.int .u8 V,.int .u32 A,.slice a l.length cap] 37)) #[.slice none 0 0,.int .i64 0,.int .i64 0] 52
 rw[World.size_alloc,<- hw0]at hx0
 have X0:=zH hx0
 have NW:=zH (show Nb w w0 by rw[hw0];exact(Nb.rfl.al _).al _)
 clear hx0
 go_enter Tryz.func27,Tryz.ntmps27
 go_wp2_with fail
 rw[<- hw0]
 clear hw0
 refine(HP.out _ NW.out).mono ?_
 rintro e w1 ⟨⟨a1,c1,rfl,b1⟩,n1⟩
 have M1:=zH n1
 have B1:=zH b1
 clear b1 n1
 go_wp2_with fail
 refine(HP2.out _ a1 c1 B1.out).mono ?_
 rintro e w2 ⟨⟨a2,c2,rfl,f2⟩,n2⟩
 have M2:=zH (M1.out.tr n2)
 have F2:=zH (f2.less M1.out.size)
 clear f2 n2
 go_wp2_with fail
 refine(z5B _).mono ?_
 rintro e w3 ⟨⟨a3,c3,rfl,f3⟩,n3⟩
 have hf3:=F2.out.keep n3
 have hn3:=M2.out.tr n3
 have hb3:=f3.1.asBs.1
 have ho10:=zH (z0a 10)
 clear f3 n3
 go_wp2_with (at_builtin;refine zd _ rfl (.tmp 17) (.tmp 18) rfl (.slice a2 P.length c2) P rfl hf3.1 a3 c3 (ones 10) 10 (z0a 10).symm rfl hb3 (hb3.noneN (z0a 10) (by omega)) (by rw[z0a];omega) ?_)
 intro v4 w4 ho hk hg
 have f4:=hf3.app0 hn3 ho hk hg
 obtain⟨a4,d4,rfl,_,_⟩:=f4.1.1.bs
 have F4:=zH f4.1
 have M4:=zH f4.2
 clear ho hk hg f4 hf3 hn3 hb3
 obtain⟨Q,hQ⟩:∃Q,Q=P++ones 10:=⟨_,rfl⟩
 have HQ:=zH hQ
 have hQl:=zH (show Q.length=P.length+10 by rw[hQ,List.length_append,z0a])
 rw[<- hQ]at F4
 rw[<- hQ]
 clear hQ
 obtain⟨c0,c1,c2,c3,c4,c5,c6,c7,c8,c9,c10⟩:=(B0.out.nb M4.out).c11
 go_wp2_with fail
 refine(HP4.out _).mono ?_
 rintro e w5 ⟨⟨a5,c5',rfl,f5⟩,n5⟩
 have M5:=zH (M4.out.tr n5)
 have F5:=zH (F4.out.keep n5)
 have B5:=zH f5.1.asBs.1
 clear f5 n5 c0 c1 c2 c3 c4 c5 c6 c7 c8 c9 c10
 go_wp2_with fail
 refine(HP3.out _ a5 c5' B5.out).mono ?_
 rintro e w6 ⟨⟨a6,c6,rfl,f6⟩,n6⟩
 have m6:=M5.out.tr n6
 have f46:=F5.out.keep n6
 have hx6:=X0.out.nb m6
 obtain⟨d0,d1,d2⟩:=hx6.c3
 obtain⟨g0,g1,g2⟩:=hx6.f3
 have s0:w.heap.size+2<=w0.heap.size:=X0.out.lt
 have eq9:(Q.length:Int) - 9=(P.length:Int)+1:=by rw[hQl.out];omega
 have HB:=zH (z0n (v0 := .slice a4 Q.length d4) (v1 := .int .i64 PH.length) (v2 := .int .i64 ((Q.length:Int) - 9)) hx6)
 have HW:=zH (z0P (NW.out.tr m6) (b:=w.heap.size+1) (by omega) (.slice a4 Q.length d4) (.int .i64 PH.length) (.int .i64 ((Q.length:Int) - 9)))
 have HF:=zH (show zf w _ _ _ from⟨f46.1.put3 (b:=w.heap.size+1) (fun g hg=>by have:=f46.2 g hg;omega) (.slice a4 Q.length d4) (.int .i64 PH.length) (.int .i64 ((Q.length:Int) - 9)),fun g hg=>by have:=f46.2 g hg;omega⟩)
 have E9:=zH eq9
 have lq:Q.length<=2000:=by rw[hQl.out];omega
 clear f6 n6 hx6 m6 f46 eq9
 go_wp2
 change bodyPost _ _ _ _ _ (put3 w6 (w.heap.size+1) (.slice a4 Q.length d4) (.int .i64 PH.length) (.int .i64 ((Q.length:Int) - 9)))
 generalize put3 w6 (w.heap.size+1) (.slice a4 Q.length d4) (.int .i64 PH.length) (.int .i64 ((Q.length:Int) - 9))=W at *
 obtain⟨e0,e1,e2⟩:=HB.out.c3
 exact bodyPost_ret (v := .tuple #[.agg #[.slice a4 Q.length d4,.int .i64 PH.length,.int .i64 ((Q.length:Int) - 9)],.int .i64 0]) (by simp[results,Tryz.results27,go_sem,e0,e1,e2]) rfl ⟨⟨a4,d4,by rw[E9.out,<- HQ.out];rfl,by rw[<- HQ.out];exact HF.out⟩,HW.out⟩
theorem z85 (f:Hd) (a:Option Addr) (cap:Nat) (l:List Nat) (w:World) (h:Bs w a cap l) (hn:a=none->cap=0) (hI:0<=f.I) :
    Calls Tryz.prog 27 #[.agg (f.cs (.slice a l.length cap))] w fun e w'=>z4B w (z0M f l) (z1S f l) (z27 f l) (okE f l) e w'/\Nb w w':=by
 cases hok:okC f l with
 | true =>
   rw[show okE f l=0 by rw[okE,if_pos hok]]
   exact zae f a cap l w h hn hI hok
 | false =>
   rw[show okE f l=2 by simp[okE,hok],show z0M f l=[] by simp[z0M,hok],show z1S f l=0 by simp[z1S,hok],show z27 f l=0 by simp[z27,hok]]
   exact z8q f a cap l w h hn hI hok
theorem z4t (i:Nat) (K:Int) (X R B E S:Bool) (D V A:Int) (dv:Value) (w:World) (hi:i < 4294967296) :
    Calls Tryz.prog 55 #[.agg #[.int .i64 K,.int .u32 i,.bool X,.bool R,.bool B,.bool E,.bool S,.int .u8 D,.int .u8 V,.int .u32 A,dv]] w fun e w'=>(∃a c,e = .returned (.slice a (headD i).length c)/\zf w w' (.slice a (headD i).length c) (headD i))/\Nb w w':=by
 obtain⟨w1,hw1⟩:∃w1,w1=w.alloc (.cells #[.int .i64 K,.int .u32 i,.bool X,.bool R,.bool B,.bool E,.bool S,.int .u8 D,.int .u8 V,.int .u32 A,dv] 37):=⟨_,rfl⟩
 have BX:=zH (show Blk w1 w.heap.size #[.int .i64 K,.int .u32 i,.bool X,.bool R,.bool B,.bool E,.bool S,.int .u8 D,.int .u8 V,.int .u32 A,dv] 37 by rw[hw1];exact Blk.new _ _ _)
 have NW:=zH (show Nb w w1 by rw[hw1];exact Nb.rfl.al _)
 have hs1:w1.heap.size=w.heap.size+1:=by rw[hw1,World.size_alloc]
 have fl1:=zf.lit w1 [0] #[.int .u8 0] (by simp) 1 (by simp) (by simp) (by simp)
 rw[hs1]at fl1
 have F1:=zH fl1
 clear fl1 hs1
 have N1:=zH (Nb.rfl.al (.cells #[.int .u8 0] 5):Nb w1 _)
 have HI:=zH hi
 go_enter Tryz.func55,Tryz.ntmps55
 go_wp2_with fail
 rw[<- hw1]
 clear hw1 hi
 have hc2:=fun wz=>z06 (i) 11 wz (by have:=HI.out;omega) (by omega)
 refine(hc2 _).mono ?_
 clear hc2
 rintro e w2 ⟨⟨a2,d2,rfl,b2⟩,n2⟩
 have hf2:=F1.out.keep n2
 have hn2:=N1.out.tr n2
 obtain⟨c0,c1,c2,c3,c4,c5,c6,c7,c8,c9,c10⟩:=(BX.out.nb hn2).c11
 clear n2
 go_wp2_with (at_builtin;refine zd _ rfl (.tmp 4) (.tmp 8) rfl (.slice (some ⟨w.heap.size+1,0,none⟩) 1 1) [0] rfl hf2.1 a2 d2 (zc (i) 11) 11 (zb _ _).symm rfl b2 (b2.noneN (zb _ _) (by omega)) (by simp[zb]) ?_)
 intro v3 w3 ho hk hg
 obtain⟨f3,n3⟩:=hf2.app0 hn2 ho hk hg
 have F3:=zH f3
 have N3:=zH n3
 clear ho hk hg hf2 hn2 b2 f3 n3 c0 c1 c2 c3 c4 c5 c6 c7 c8 c9 c10
 have fl3:=zf.lit w3 [0,0,1,0] #[.int .u8 0,.int .u8 0,.int .u8 1,.int .u8 0] (by simp) 4 (by simp) (by simp) (by intro x hx;simp at hx;omega)
 have fk3:=F3.out.keep (Nb.rfl.al (.cells #[.int .u8 0,.int .u8 0,.int .u8 1,.int .u8 0] 5))
 go_wp2_with (at_builtin;refine zd _ rfl (.tmp 10) (.tmp 11) rfl v3 _ rfl fk3.1 _ _ [0,0,1,0] 4 rfl rfl fl3.1.asBs.1 (by simp) (by simp[zb]) ?_)
 intro v4 w4 ho hk hg
 obtain⟨f4,n4⟩:=fk3.app0 (N3.out.al _) ho hk (fun g h=>by have:=hg g h;simpa using this)
 have F4:=zH f4
 have N4:=zH n4
 clear ho hk hg fk3 fl3 f4 n4
 have f9:zf w1 w4 v4 (headD i):=by
  have h:=F4.out
  simpa [headD]using h
 obtain⟨a9,d9,rfl,_,_⟩:=f9.1.bs
 have F9:=zH (f9.less NW.out.size)
 have N9:=zH (NW.out.tr N4.out)
 clear f9
 go_wp2
 go_ret
 exact⟨⟨_,_,rfl,F9.out⟩,N9.out⟩
theorem za3 (f:Hd) (a:Option Addr) (cap:Nat) (l:List Nat) (w:World) (hL:l.length<=9223372036854775807) (hK:(f.K==2)=false) :
    Calls Tryz.prog 47 #[.agg (f.cs (.slice a l.length cap))] w fun e w'=>z9H [] 2 e w'/\Nb w w':=by
 obtain⟨K,I,X,R,B,E,S,D,V,A⟩:=f
 simp only[Hd.cs]
 have d:(K != 2)=true:=by simpa [bne]using hK
 clear hK
 go_enter Tryz.func47,Tryz.ntmps47
 go_wp2
 go_ret2
 exact⟨⟨_,_,rfl,Bs.nil _⟩,Nb.rfl.al _⟩
theorem z84 (f:Hd) (a:Option Addr) (cap:Nat) (l:List Nat) (w:World) (hL:l.length<=9223372036854775807) (hK:f.K=2) (ho:okF f l=false) :
    Calls Tryz.prog 47 #[.agg (f.cs (.slice a l.length cap))] w fun e w'=>z9H [] 2 e w'/\Nb w w':=by
 have hc:=fun w'=>z0L f a cap l w' hL
 rw[show zt f l=2 by simp[zt,ho]]at hc
 obtain⟨K,I,X,R,B,E,S,D,V,A⟩:=f
 simp only at hK
 subst hK
 simp only[Hd.cs]at hc ⊢
 have HC:=zH hc
 clear hc ho
 go_enter Tryz.func47,Tryz.ntmps47
 go_wp2_with fail
 refine(HC.out _).mono ?_
 rintro e w1 ⟨rfl,n1⟩
 go_wp2
 go_ret2
 exact⟨⟨_,_,rfl,Bs.nil _⟩,(Nb.rfl.al _).tr n1⟩
theorem z9w (B E:Bool) (i:Nat) (a:Option Addr) (cap:Nat) (l:List Nat) (w:World) (h:Bs w a cap l) (hn:a=none->cap=0) (hok:okD ⟨2,(i:Int),false,false,B,E,false,0,0,0⟩ l=true) :
    Calls Tryz.prog 47 #[.agg (Hd.cs ⟨2,(i:Int),false,false,B,E,false,0,0,0⟩ (.slice a l.length cap))] w fun e w'=>z9H (z0F B E i l) 0 e w'/\Nb w w':=by
 obtain⟨j,_,ej,hh,hi⟩:=z1Q hok (Int.natCast_nonneg i)
 have ej':i=j:=by simpa using ej
 subst ej'
 have hL:=h.len
 obtain⟨h64,hc16,hcE,_⟩:=zlb hh
 have hokF:okF ⟨2,(i:Int),false,false,B,E,false,0,0,0⟩ l=true:=by simpa [okD]using hok
 have P1:=zH (fun w'=>by
  have:=z0L ⟨2,(i:Int),false,false,B,E,false,0,0,0⟩ a cap l w' hL
  rw[show zt ⟨2,(i:Int),false,false,B,E,false,0,0,0⟩ l=0 by simp[zt,hokF]]at this
  simp only[Hd.cs]at this
  exact this)
 have hp2:=fun w'=>by
  have:=z0e 2 (l.length:Int) w'
  rw[hcE]at this
  exact this
 obtain⟨c,hc⟩:∃c,z0s 2 (l.length:Int)=c:=⟨_,rfl⟩
 have EQ:=zH (show headD i++zP B::zP E::(zc c 4++ze l)=z0F B E i l by rw[<- hc];simp[z0F])
 rw[hc]at hc16 hp2
 have PC:=zH hp2
 have P2:=zH (fun w'=>z4t i 2 false false B E false 0 0 0 (.slice a l.length cap) w' (by omega))
 have P3:=zH (fun w'=>z06 c 4 w' (by omega) (by omega))
 have P4:=zH (fun w' (n:Nb w w')=>z3t a cap l w' (h.below n) (by omega))
 have HB4:=zH (zb c 4)
 have HB8:=zH (zN l)
 have HHD:=zH (z2Z i)
 have e64:IntKind.u64.wrap (c:Int)=c:=by rw[IntKind.wrap_u64];omega
 clear h hn hok hokF hh hcE hc ej hp2
 simp only[Hd.cs]
 obtain⟨w1,hw1⟩:∃w1,w1=w.alloc (.cells #[.int .i64 2,.int .u32 i,.bool false,.bool false,.bool B,.bool E,.bool false,.int .u8 0,.int .u8 0,.int .u32 0,.slice a l.length cap] 37):=⟨_,rfl⟩
 have B1:=zH (show Blk w1 w.heap.size #[.int .i64 2,.int .u32 i,.bool false,.bool false,.bool B,.bool E,.bool false,.int .u8 0,.int .u8 0,.int .u32 0,.slice a l.length cap] 37 by rw[hw1];exact Blk.new _ _ _)
 have NW:=zH (show Nb w w1 by rw[hw1];exact Nb.rfl.al _)
 go_enter Tryz.func47,Tryz.ntmps47
 go_wp2_with fail
 rw[<- hw1]
 clear hw1
 refine(P1.out _).mono ?_
 rintro e w2 ⟨rfl,n2⟩
 have N2:=zH n2
 obtain⟨c0,c1,c2,c3,c4,c5,c6,c7,c8,c9,c10⟩:=(B1.out.nb n2).c11
 clear n2
 go_wp2_with fail
 refine(PC.out _).mono ?_
 rintro e w3 ⟨rfl,n3⟩
 have N3:=zH (N2.out.tr n3)
 clear n3 c0 c1 c2 c3 c4 c5 c6 c7 c8 c9 c10
 obtain⟨c0,c1,c2,c3,c4,c5,c6,c7,c8,c9,c10⟩:=(B1.out.nb N3.out).c11
 go_wp2_with fail
 have NB:RowKit.Hid (Nb w1 w3.drew):=zH (N3.out.tr (show Nb w3 w3.drew from Nb.drewN w3 1))
 go_region_held3 (fun w'=>w'.cell? ⟨w.heap.size,0,none⟩=some (.int .i64 2)/\w'.cell? ⟨w.heap.size,1,none⟩=some (.int .u32 i)/\w'.cell? ⟨w.heap.size,2,none⟩=some (.bool false)/\w'.cell? ⟨w.heap.size,3,none⟩=some (.bool false)/\w'.cell? ⟨w.heap.size,4,none⟩=some (.bool B)/\w'.cell? ⟨w.heap.size,5,none⟩=some (.bool E)/\w'.cell? ⟨w.heap.size,6,none⟩=some (.bool false)/\w'.cell? ⟨w.heap.size,7,none⟩=some (.int .u8 0)/\w'.cell? ⟨w.heap.size,8,none⟩=some (.int .u8 0)/\w'.cell? ⟨w.heap.size,9,none⟩=some (.int .u32 0)/\w'.cell? ⟨w.heap.size,10,none⟩=some (.slice a l.length cap)) (first | go_keep | exact(B1.out.nb NB.out).c11 | exact(B1.out.nb (NB.out.al _)).c11)
  (first
   | (refine z1P _ rfl (.tmp 23) (.tmp 30) rfl (.slice a5 (headD i).length d5) (headD i) ?_ ?_ (some ⟨w5.heap.size,0,none⟩) 2 [zP B,zP E] 2 rfl ?_ ?_ (by simp) ?_ ?_
      ·simp[Act.eval,Act.put]
      ·exact(F5.out _ (Nb.rfl.al _)).1
      ·simp[Act.eval,Act.put]
      ·exact(zf.lit w5 [zP B,zP E] _ (by simp) 2 (by simp) (by simp) (by intro x hx;simp at hx;have:=zQ B;have:=zQ E;omega)).1.asBs.1
      ·rw[HHD.out];simp
      intro v7 w7 ho hk hg
      have f57:=zf.app0 (F5.out _ (Nb.rfl.al _)) (NB.out.al _) ho hk hg
      have F7:=zH f57.1
      have NB:=zH f57.2
      clear ho hk hg f57)
   | (refine z1P _ rfl (.tmp 23) (.tmp 30) rfl (.slice a5 (headD i).length d5) (headD i) ?_ ?_ (some ⟨w3.heap.size,0,none⟩) 2 [zP B,zP E] 2 rfl ?_ ?_ (by simp) ?_ ?_
      ·simp[Act.eval,Act.put]
      ·exact(F5.out _ Nb.rfl).1
      ·simp[Act.eval,Act.put]
      ·exact(zf.lit w3.drew [zP B,zP E] _ (by simp) 2 (by simp) (by simp) (by intro x hx;simp at hx;have:=zQ B;have:=zQ E;omega)).1.asBs.1.below M5.out
      ·rw[HHD.out];simp
      intro v7 w7 ho hk hg
      have f57:=zf.app0 (F5.out _ Nb.rfl) NB.out ho hk hg
      have F7:=zH f57.1
      have NB:=zH f57.2
      clear ho hk hg f57)
   | (go_at_call 55
      refine(P2.out _).mono ?_
      rintro e w5 ⟨⟨a5,d5,rfl,f5⟩,n5⟩
      have s5:Nb w1 w5/\zf w1 w5 (.slice a5 (headD i).length d5) (headD i):=by
       first
        | exact⟨NB.out.tr n5,f5.less NB.out.size⟩
        | exact⟨(NB.out.al _).tr n5,f5.less (NB.out.al _).size⟩
      have F5:=zH (fun w' (n:Nb w5 w')=>s5.2.keep n)
      have M5:=zH n5
      have NB:=zH s5.1
      clear f5 n5 s5)
   | (go_at_call 82
      refine(z2o _ _).mono ?_
      rintro e wz ⟨rfl,rfl⟩))
 all_goals
  have N7:=zH NB.out
  clear NB
  obtain⟨c0,c1,c2,c3,c4,c5,c6,c7,c8,c9,c10⟩:=(B1.out.nb N7.out).c11
  go_wp2_with fail
  clear c0 c1 c2 c3 c4 c5 c6 c7 c8 c9 c10
  refine(P3.out _).mono ?_
  rintro e w8 ⟨⟨a8,d8,rfl,b8⟩,n8⟩
  have hf8:=F7.out.keep n8
  have hn8:=N7.out.tr n8
  clear n8
  obtain⟨c0,c1,c2,c3,c4,c5,c6,c7,c8,c9,c10⟩:=(B1.out.nb hn8).c11
  go_wp2_with (at_builtin;refine zd _ rfl (.tmp 32) (.tmp 35) rfl v7 _ rfl hf8.1 a8 d8 (zc c 4) 4 HB4.out.symm rfl b8 (b8.noneN HB4.out (by omega)) (by simp only[List.length_append,HHD.out,HB4.out,List.length_cons,List.length_nil];omega) ?_)
  intro v9 w9 ho hk hg
  obtain⟨f9,n9⟩:=hf8.app0 hn8 ho hk hg
  have F9:=zH f9
  have N9:=zH n9
  clear ho hk hg hf8 hn8 b8 f9 n9 c0 c1 c2 c3 c4 c5 c6 c7 c8 c9 c10
  obtain⟨c0,c1,c2,c3,c4,c5,c6,c7,c8,c9,c10⟩:=(B1.out.nb N9.out).c11
  go_wp2_with fail
  clear c0 c1 c2 c3 c4 c5 c6 c7 c8 c9 c10
  refine(P4.out _ (NW.out.tr N9.out)).mono ?_
  rintro e wa ⟨⟨aa,da,rfl,ba,za⟩,na⟩
  have hfa:=F9.out.keep na
  have hna:=N9.out.tr na
  have ba':Bs wa aa da (ze l):=ba
  have qa:aa=none->8*l.length=0/\da=0:=fun h0=>⟨by
   subst h0
   have h3:=ba'.none_len
   have h4:=HB8.out
   rw[h3]at h4
   simp at h4
   omega,za h0⟩
  clear na ba za
  go_wp2_with (at_builtin;refine zd _ rfl (.tmp 37) (.tmp 40) rfl v9 _ rfl hfa.1 aa da (ze l) (8*l.length) HB8.out.symm rfl ba' qa (by simp only[List.length_append,HHD.out,HB4.out,HB8.out,List.length_cons,List.length_nil];omega) ?_)
  intro vb wb ho hk hg
  have fb:=hfa.app0 hna ho hk hg
  rw[EQ.out]at fb
  obtain⟨ab,db,rfl,bb,_⟩:=fb.1.1.bs
  have BB:=zH bb
  have NN:=zH fb.2
  clear ho hk hg fb bb hfa hna ba' qa
  go_wp2
  go_ret2
  exact⟨⟨ab,db,rfl,BB.out⟩,NW.out.tr NN.out⟩
theorem z4w (f:Hd) (a:Option Addr) (cap:Nat) (l:List Nat) (w:World) (h:Bs w a cap l) (hn:a=none->cap=0) (hI:0<=f.I) :
    Calls Tryz.prog 47 #[.agg (f.cs (.slice a l.length cap))] w fun e w'=>z9H (bdC f l) (z3w f l) e w'/\Nb w w':=by
 cases hok:okD f l with
 | true =>
   obtain⟨i,ef,et,_⟩:=z1Q hok hI
   rw[show bdC f l=z0F f.B f.E i l by rw[bdC,if_pos hok,et],show z3w f l=0 by rw[z3w,if_pos hok]]
   have hok2:okD ⟨2,(i:Int),false,false,f.B,f.E,false,0,0,0⟩ l=true:=by rw[<- ef];exact hok
   have:=z9w f.B f.E i a cap l w h hn hok2
   rw[<- ef]at this
   exact this
 | false =>
   rw[show bdC f l=[] by simp[bdC,hok],show z3w f l=2 by simp[z3w,hok]]
   cases hK:f.K==2 with
   | false=>exact za3 f a cap l w h.len hK
   | true=>exact z84 f a cap l w h.len (by simpa using hK) (by simpa [okD,hK]using hok)
theorem z9E(n:Nat)(w:World):Calls Tryz.prog 51 #[.int .i64 (n:Int)] w fun e w'=>e = .returned (.int .i64 (zx n:Nat))/\w=w':=by
 by_cases h:16 < n
 ·have d:decide (16 < (n:Int))=true:=by simp;omega
  rw[show zx n=3 by simp[zx,h]]
  clear h
  go_enter Tryz.func51,Tryz.ntmps51
  go_wp2
  go_ret
  exact⟨rfl,rfl⟩
 ·have d:decide (16 < (n:Int))=false:=by simp;omega
  rw[show zx n=2 by simp[zx,h]]
  clear h
  go_enter Tryz.func51,Tryz.ntmps51
  go_wp2
  go_ret
  exact⟨rfl,rfl⟩
theorem zdL (w:World) {ops:Array Oper} {o:Oper} {a:Act} {K:Act->World->Prop} {Q:Exit->Act->World->Prop} {E:Prop}
    (hg:o.guard=none) (s x:Operand) (hop:o.op=Op.call { callee:=Callee.builtin Builtin.append,args:=#[s,x],argTypes:=#[35,35] })
    (v:Value) (l:List Nat) (hs:a.eval s=v) (hown:z04 w v l)
    (ao:Option Addr) (c:Nat) (ns:List Nat) (m:Nat) (hm:m=ns.length) (hx:a.eval x = .slice ao m c) (hb:Bs w ao c ns) (hpos:0 < ns.length)
    (b1:l.length+ns.length<=140737488355328)
    (hK:∀v' w',z04 w' v' (l++ns)->Kp (fun k=>v.ownBlock=some k) w w'->(∀g,v'.ownBlock=some g->v.ownBlock=some g\/w.heap.size<=g)->(∀g cap j,v = .slice (some ⟨g,0,none⟩) l.length cap->j < l.length->w'.cell? ⟨g,j,none⟩=some (.int .u8 ((l.getD j 0:Nat):Int)))->K (a.put o.dst v') w') :
    if Region.wanted o (yielded ops a.tmps)=true then Oper.wp Tryz.prog o a w K Q else E:=by
 obtain⟨i0,hi,hz0,hz1,hz2⟩:=info_parts z5G
 subst hm
 obtain⟨b,o',rfl,hcell⟩:=hb.hcells hpos
 have hc:∀j u,(ns.map fun x:Nat=>Value.int .u8 (x:Int))[j]? = some u->w.cell? ((⟨b,o',none⟩:Addr).add j)=some u:=by
  intro j u hu
  have hj:j < ns.length:=by
   have:=(List.getElem?_eq_some_iff.1 hu).1
   simpa using this
  rw[Addr.add_lit,hcell j hj]
  rw[<- hu]
  simp[List.getD,hj]
 have h1c:∀u∈(ns.map fun x:Nat=>Value.int .u8 (x:Int)),u.oneCell'=true:=by
  intro u hu
  obtain⟨y,_,rfl⟩:=List.mem_map.1 hu
  rfl
 have hby:∀y∈l++ns,y < 256:=by
  intro y hy
  rcases List.mem_append.1 hy with h | h
  ·exact hown.2 y h
  ·exact hb.hbyte y h
 have hlen:(ns.map fun x:Nat=>Value.int .u8 (x:Int)).length=ns.length*1:=by simp
 have hnew:∀v' w',w'.ownsRow w.heap.size 5 1 v' (l.length+ns.length) ((l.map fun x:Nat=>Value.int .u8 (x:Int))++(ns.map fun x:Nat=>Value.int .u8 (x:Int)))->w.grownBy w' none->K (a.put o.dst v') w':=fun v' w' ho hgr =>
  hK v' w' ⟨by simpa using z20 ho,hby⟩ (Kp.grown hgr (by simp)) (fun g hg => .inr (ho.lt g hg).1) (fun g cap j hv hj=>by subst hv;exact(hown.keep (F:=fun _=>False) (Kp.grown hgr (by simp)) (by simp)).cell j hj)
 rcases hown.1.2 with ⟨rfl,h2⟩ | ⟨g,cap,cur,rfl,hbg,hgg,hnc,hcm,hcs,htake⟩
 ·have hl:l=[]:=List.length_eq_zero_iff.1 h2
  subst hl
  exact step_append_grows hg s x 35 hop 5 i0 (.int .u8 0) 1 1 Tryz.underlying35 hi hz0 hz1 hz2 rfl (by decide) none 0 0 [] hs (fun _=>⟨rfl,rfl⟩) (by simp) (by simp) ⟨b,o',none⟩ ns.length c _ hx hlen hc h1c (by omega) (by unfold maxLen;simp only[List.length_nil]at b1;omega) (by simp only[List.length_nil]at b1;omega) (by simpa using hnew)
 ·by_cases hroom:l.length+ns.length<=cap
  ·have hw:Region.wanted o (yielded ops a.tmps)=true:=by simp[Region.wanted,hg]
   rw[if_pos hw]
   obtain⟨w',hrun,r1,r2⟩:=run_append_fits (P:=Tryz.prog) w 0 35 o.type 5 i0 1 Tryz.underlying35 hi hz1 g l.length cap _ hown.1 ⟨b,o',none⟩ ns.length c _ hlen hc h1c hroom
   unfold Oper.wp
   simp[execOp,hop,resolve,invoke,builtin,hs,hx,hrun,Result.andThen]
   exact hK _ _ ⟨by simpa using r1,hby⟩ (Kp.grown r2 (fun k hk=>by simpa [Value.ownBlock]using hk)) (fun k hk => .inl (by simpa [Value.ownBlock]using hk)) (fun g' cap' j hv hj=>by
    simp only[Value.slice.injEq,Option.some.injEq,Addr.mk.injEq,and_true,true_and]at hv
    obtain⟨rfl,rfl⟩:=hv
    have:=z04.cell (w:=w') (m:=l++ns) (show z04 w' (.slice (some ⟨g,0,none⟩) (l.length+ns.length) cap) (l++ns) from⟨by simpa using r1,hby⟩) j (by rw[List.length_append];omega)
    rwa[List.getD,List.getElem?_append_left hj,<- List.getD]at this)
  ·exact step_append_grows hg s x 35 hop 5 i0 (.int .u8 0) 1 1 Tryz.underlying35 hi hz0 hz1 hz2 rfl (by decide) (some ⟨g,0,none⟩) l.length cap _ hs (by simp) (by simp) (fun b hb=>by cases hb;exact hown.1.cells (g:=g) rfl) ⟨b,o',none⟩ ns.length c _ hx hlen hc h1c (by omega) (by unfold maxLen;omega) (by omega) hnew
end Go.Proofs.YtplbmlpdefpplaaGreatDoor
