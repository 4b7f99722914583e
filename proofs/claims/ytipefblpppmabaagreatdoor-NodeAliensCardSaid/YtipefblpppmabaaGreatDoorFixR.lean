
/- Contracts of the document's Size, Raw, Put and Get of layer 4. No conditions. -/
import Derived.Test.YtipefblpppmabaaGreatDoorGx
set_option maxHeartbeats 3200000
set_option maxRecDepth 100000
namespace Go.Proofs.YtipefblpppmabaaGreatDoor
set_option linter.unusedVariables false
set_option linter.unusedSimpArgs false
open Go.RowKit
theorem tmod_nat (a b:Nat):Int.tmod (a:Int) (b:Int)=((a%b:Nat):Int):=by rw[Int.tmod_eq_emod_of_nonneg (by omega)];push_cast;rfl
theorem beq0 (q:Nat):((q:Int)==0)=decide (q=0):=by
 by_cases h:q=0
 ·subst h;rfl
 ·rw[decide_eq_false h,beq_eq_false_iff_ne];omega
theorem cons_last (p:Nat) (P:List Nat):(p::P).getD P.length 0=lastP p P:=by
 unfold lastP
 by_cases h:P=[]
 ·subst h;rfl
 ·rw[if_neg h]
  have:0 < P.length:=List.length_pos_iff.2 h
  obtain⟨m,hm⟩:∃ m,P.length=m+1:=⟨P.length - 1,by omega⟩
  rw[hm,Nat.add_sub_cancel]
  simp[List.getD]
theorem OwnB.one1 (w:World) (x:Nat) (hx:x < 256):OwnB (w.alloc (.cells #[.int .u8 (x:Int)] 5)) (.slice (some ⟨w.heap.size,0,none⟩) 1 1) [x] :=
 ⟨⟨by simp,.inr ⟨w.heap.size,1,#[.int .u8 (x:Int)],by simp,Nat.zero_le _,heap_alloc_new w _,by simp,by simp[maxLen],by simp,by simp⟩⟩,by simpa using hx⟩
theorem refraw_any (p:Nat) (a:Option Addr) (cap:Nat) (l:List Nat) (E:Nat) (A:Bool) (w:World) (hp:p<=1) (h:Bs w a cap l) (h1:1<=E) (h2:E<=64) (hc:chk l=true) :
    Calls Tryz.prog 93 #[.int .u8 p,.slice a l.length cap,.agg #[.int .i64 E,.bool A]] w fun e w'=>AnsL (fxPut E A p l) e w'/\Nb w w':=by
 have hL:=h.len
 have hlen:=chk_len hc
 have hbit:=Lib.hid (chk_bit hc)
 have H:=Lib.hid h
 have hE0:((E:Int)==0)=false:=by rw[beq_eq_false_iff_ne];omega
 obtain⟨w0,hw0⟩:∃ w0,w0=w.alloc (.cells #[.int .i64 E,.bool A] 120):=⟨_,rfl⟩
 have hB:Blk w0 w.heap.size #[.int .i64 E,.bool A] 120:=by rw[hw0];exact Blk.new _ _ _
 have hn0:Nb w w0:=by rw[hw0];exact Nb.rfl.al _
 have hone:=OwnB.one1 w0 p (by omega)
 have hn1:Nb w0 (w0.alloc (.cells #[.int .u8 (p:Int)] 5)):=Nb.rfl.al _
 have hf0:Fresh w0 (w0.alloc (.cells #[.int .u8 (p:Int)] 5)) (.slice (some ⟨w0.heap.size,0,none⟩) 1 1) [p]:=⟨hone,fun g hg=>by simp[Value.ownBlock] at hg;omega⟩
 have HB:=Lib.hid hB
 have HN0:=Lib.hid hn0
 have HN1:=Lib.hid hn1
 have HF0:=Lib.hid hf0
 have HW0:=Lib.hid hw0
 clear h hc hB hn0 hn1 hf0 hone hw0
 go_enter Tryz.func93,Tryz.ntmps93
 go_wp2
 rw[<- HW0.out]
 go_loopw [7,14] (fun v i wr=>∃ k:Nat,k<=l.length/\i = .int .i64 k/\Fresh w0 wr v (p::fxPut E A p (l.take k))/\Nb w0 wr) (fun _ i _=>l.length - (intOf i).toNat)
 case atStart=>exact⟨0,Nat.zero_le _,rfl,by simpa [HW0.out,fxPut] using HF0.out,by simpa [HW0.out] using HN1.out⟩
 case round =>
  obtain⟨k,hk,rfl,hfr,hnb⟩:=hrel
  by_cases hlt:k < l.length
  ·obtain⟨b,o,rfl,hcl⟩:=(H.out.below (HN0.out.tr hnb)).hcells (by omega)
   obtain⟨x,hx⟩:∃ x,l[k]? = some x:=⟨l[k],by simp[hlt]⟩
   have c1:=hcl k hlt
   rw[show l.getD k 0=x from by simp[List.getD,hx]] at c1
   have hBr:=HB.out.nb hnb
   have e0:wr.cell? ⟨w.heap.size,0,none⟩=some (.int .i64 E):=hBr.cell 0
   have e1:wr.cell? ⟨w.heap.size,1,none⟩=some (.bool A):=hBr.cell 1
   have hx1:=hbit.out x (List.mem_of_getElem? hx)
   have hbT:∀ y∈l.take k,y<=1:=fun y hy=>hbit.out y (List.mem_of_mem_take hy)
   have hlast:=lastP_le hp (fxPut_bit (E:=E) (A:=A) (p:=p) hbT)
   have hsz:=szF_le2 E A k
   have hPl:=fxPut_len (E:=E) A p (l.take k)
   have htl:(l.take k).length=k:=by rw[List.length_take];omega
   rw[htl] at hPl
   have htk:fxPut E A p (l.take (k+1))=if dueF E A k then fxPut E A p (l.take k)++[1 - lastP p (fxPut E A p (l.take k)),x] else fxPut E A p (l.take k)++[x]:=by
    rw[take_snoc' hx,fxPut_snoc,htl]
   have hcl2:=cons_last p (fxPut E A p (l.take k))
   obtain⟨P',hPP⟩:∃ P',fxPut E A p (l.take (k+1))=P':=⟨_,rfl⟩
   rw[hPP] at htk
   have HPP:=Lib.hid hPP
   clear hPP
   generalize fxPut E A p (l.take k)=P at *
   have hP:P.length<=140000:=by omega
   clear htl hcl hbT hPl hx hsz hBr
   obtain⟨g,cP,rfl⟩:=hfr.1.shape (by simp)
   have cl:wr.cell? ⟨g,P.length,none⟩=some (.int .u8 (lastP p P:Nat)):=by
    have:=hfr.1.cell P.length (by simp)
    rwa[hcl2] at this
   obtain⟨la,hla⟩:∃ la,lastP p P=la:=⟨_,rfl⟩
   rw[hla] at cl hlast htk
   have hr:=tmod_nat k E
   obtain⟨m,hm⟩:∃ m,k%E=m:=⟨_,rfl⟩
   rw[hm] at hr
   have hmb:=beq0 m
   obtain⟨L,hL2⟩:∃ L,p::P=L:=⟨_,rfl⟩
   have hL1:L.length=P.length+1:=by rw[<- hL2];rfl
   rw[show P.length=L.length - 1 from by omega] at cl
   rw[hL2] at hfr ⊢
   have hLn:L.length<=140001:=by omega
   have hLp:1<=L.length:=by omega
   have hdd:dueF E A k=if k=0 then A else decide (m=0):=by unfold dueF;rw[hm]
   have HTK:Hid (p::P'=if (if k=0 then A else decide (m=0)) then (L++[1 - la])++[x] else L++[x]):=Lib.hid (by rw[htk,<- hL2,<- hdd];split<;>simp)
   have HFR:=Lib.hid hfr
   have HNB:=Lib.hid hnb
   clear hfr hnb htk hcl2 hla hL2 hL1 hdd hm
   by_cases hk0:k=0
   ·rw[if_pos hk0] at HTK
    have dk1:¬0 < k:=by omega
    clear hr hmb hk0
    cases A with
    | true =>
      simp only[if_true] at HTK
      obtain⟨q,hq⟩:∃ q,1 - la=q:=⟨_,rfl⟩
      have hq1:q<=1:=by omega
      have HQ:Hid ((1:Int) - (la:Int)=(q:Int)):=Lib.hid (by omega)
      rw[hq] at HTK
      have hal:Kp (fun _=>False) wr (wr.alloc (.cells #[.int .u8 ((1:Int) - (la:Int))] 5)):=Kp.alloc
      have hown:=HFR.out.1.keep hal (by simp)
      have hb1:Bs (wr.alloc (.cells #[.int .u8 ((1:Int) - (la:Int))] 5)) (some ⟨wr.heap.size,0,none⟩) 1 [q]:=by rw[HQ.out];exact Bs.one wr q (by omega) _
      have HB1:=Lib.hid hb1
      clear hb1 hal hq
      go_wp2_with (at_builtin;refine wpList_appB _ rfl (.tmp 36) (.tmp 44) rfl _ L rfl hown _ _ [q] 1 rfl rfl HB1.out (by simp) (by simp;omega) ?_)
      intro v5 w5 hown5 hk5 hf5
      have happ:=HFR.out.app HNB.out hown5 hk5 (by simpa using hf5)
      obtain⟨L2,hL2⟩:∃ L2,L++[q]=L2:=⟨_,rfl⟩
      have hL2n:L2.length<=140002:=by rw[<- hL2,List.length_append,List.length_singleton];omega
      rw[hL2] at happ hown5 HTK
      obtain⟨a5,c5,rfl,-,-⟩:=hown5.bs
      have HA5:=Lib.hid happ
      have hal:Kp (fun _=>False) w5 (w5.alloc (.cells #[.int .u8 (x:Int)] 5)):=Kp.alloc
      have hownX:=hown5.keep hal (by simp)
      clear happ hown5 hk5 hf5 hown hal hL2 HB1 HFR
      go_wp2_with (at_builtin;refine wpList_appB _ rfl (.tmp 46) (.tmp 48) rfl _ L2 rfl hownX _ _ [x] 1 rfl rfl (Bs.one w5 x (by omega) _) (by simp) (by simp;omega) ?_)
      intro v9 w9 hown9 hk9 hf9
      have happ:=HA5.out.1.app HA5.out.2 hown9 hk9 (by simpa using hf9)
      have HA9:=Lib.hid happ
      clear happ hown9 hk9 hf9 hownX HA5
      go_wp2
      go_roundw
      case rel=>exact⟨k+1,by omega,by go_num,by rw[HPP.out,HTK.out];exact HA9.out.1,HA9.out.2⟩
      case measure=>simp[intOf];omega
    | false =>
      simp only[Bool.false_eq_true,if_false] at HTK
      have hal:Kp (fun _=>False) wr (wr.alloc (.cells #[.int .u8 (x:Int)] 5)):=Kp.alloc
      have hownX:=HFR.out.1.keep hal (by simp)
      clear hal
      go_wp2_with (at_builtin;refine wpList_appB _ rfl (.tmp 46) (.tmp 48) rfl _ L rfl hownX _ _ [x] 1 rfl rfl (Bs.one wr x (by omega) _) (by simp) (by simp;omega) ?_)
      intro v9 w9 hown9 hk9 hf9
      have happ:=HFR.out.app HNB.out hown9 hk9 (by simpa using hf9)
      have HA9:=Lib.hid happ
      clear happ hown9 hk9 hf9 hownX HFR
      go_wp2
      go_roundw
      case rel=>exact⟨k+1,by omega,by go_num,by rw[HPP.out,HTK.out];exact HA9.out.1,HA9.out.2⟩
      case measure=>simp[intOf];omega
   ·rw[if_neg hk0] at HTK
    have hkp:0 < k:=by omega
    clear hk0
    by_cases hm0:m=0
    ·rw[decide_eq_true hm0] at HTK hmb
     simp only[if_true] at HTK
     clear hm0
     obtain⟨q,hq⟩:∃ q,1 - la=q:=⟨_,rfl⟩
     have hq1:q<=1:=by omega
     have HQ:Hid ((1:Int) - (la:Int)=(q:Int)):=Lib.hid (by omega)
     rw[hq] at HTK
     have hal:Kp (fun _=>False) wr (wr.alloc (.cells #[.int .u8 ((1:Int) - (la:Int))] 5)):=Kp.alloc
     have hown:=HFR.out.1.keep hal (by simp)
     have hb1:Bs (wr.alloc (.cells #[.int .u8 ((1:Int) - (la:Int))] 5)) (some ⟨wr.heap.size,0,none⟩) 1 [q]:=by rw[HQ.out];exact Bs.one wr q (by omega) _
     have HB1:=Lib.hid hb1
     clear hb1 hal hq
     go_wp2_with (at_builtin;refine wpList_appB _ rfl (.tmp 36) (.tmp 44) rfl _ L rfl hown _ _ [q] 1 rfl rfl HB1.out (by simp) (by simp;omega) ?_)
     intro v5 w5 hown5 hk5 hf5
     have happ:=HFR.out.app HNB.out hown5 hk5 (by simpa using hf5)
     obtain⟨L2,hL2⟩:∃ L2,L++[q]=L2:=⟨_,rfl⟩
     have hL2n:L2.length<=140002:=by rw[<- hL2,List.length_append,List.length_singleton];omega
     rw[hL2] at happ hown5 HTK
     obtain⟨a5,c5,rfl,-,-⟩:=hown5.bs
     have HA5:=Lib.hid happ
     have hal:Kp (fun _=>False) w5 (w5.alloc (.cells #[.int .u8 (x:Int)] 5)):=Kp.alloc
     have hownX:=hown5.keep hal (by simp)
     clear happ hown5 hk5 hf5 hown hal hL2 HB1 HFR
     go_wp2_with (at_builtin;refine wpList_appB _ rfl (.tmp 46) (.tmp 48) rfl _ L2 rfl hownX _ _ [x] 1 rfl rfl (Bs.one w5 x (by omega) _) (by simp) (by simp;omega) ?_)
     intro v9 w9 hown9 hk9 hf9
     have happ:=HA5.out.1.app HA5.out.2 hown9 hk9 (by simpa using hf9)
     have HA9:=Lib.hid happ
     clear happ hown9 hk9 hf9 hownX HA5
     go_wp2
     go_roundw
     case rel=>exact⟨k+1,by omega,by go_num,by rw[HPP.out,HTK.out];exact HA9.out.1,HA9.out.2⟩
     case measure=>simp[intOf];omega
    ·rw[decide_eq_false hm0] at HTK hmb
     simp only[Bool.false_eq_true,if_false] at HTK
     clear hm0
     have hal:Kp (fun _=>False) wr (wr.alloc (.cells #[.int .u8 (x:Int)] 5)):=Kp.alloc
     have hownX:=HFR.out.1.keep hal (by simp)
     clear hal
     go_wp2_with (at_builtin;refine wpList_appB _ rfl (.tmp 46) (.tmp 48) rfl _ L rfl hownX _ _ [x] 1 rfl rfl (Bs.one wr x (by omega) _) (by simp) (by simp;omega) ?_)
     intro v9 w9 hown9 hk9 hf9
     have happ:=HFR.out.app HNB.out hown9 hk9 (by simpa using hf9)
     have HA9:=Lib.hid happ
     clear happ hown9 hk9 hf9 hownX HFR
     go_wp2
     go_roundw
     case rel=>exact⟨k+1,by omega,by go_num,by rw[HPP.out,HTK.out];exact HA9.out.1,HA9.out.2⟩
     case measure=>simp[intOf];omega
  ·obtain rfl:k=l.length:=by omega
   rw[List.take_of_length_le (Nat.le_refl _)] at hfr
   obtain⟨g,cP,rfl⟩:=hfr.1.shape (by simp)
   have hbs:=hfr.1.asBs.1
   have hc2:=hbs.hcap
   have hm2:=hbs.hmax
   unfold maxLen at hm2
   have ht:=hbs.tail 1 (by simp)
   simp only[List.drop_succ_cons,List.drop_zero] at ht
   have HT:=Lib.hid ht
   obtain⟨P,hP⟩:∃ P,fxPut E A p l=P:=⟨_,rfl⟩
   rw[hP] at hc2 HT ⊢
   have HP:=Lib.hid hP
   simp only[List.length_cons] at hc2
   clear hfr hbs ht hP
   by_cases hcp:cP=1
   ·have HPn:Hid (P=[]):=Lib.hid (List.length_eq_zero_iff.1 (by omega))
    go_wp2
    go_ret
    rw[HP.out,HPn.out]
    exact⟨⟨some ⟨g,0,none⟩,0,rfl,⟨Nat.zero_le _,by simp[maxLen],by simp,by simp⟩⟩,HN0.out.tr hnb⟩
   ·go_wp2
    go_ret
    rw[HP.out]
    exact⟨⟨_,_,rfl,by simpa using HT.out⟩,HN0.out.tr hnb⟩
end Go.Proofs.YtipefblpppmabaaGreatDoor
