
/- The document's Rank and First of frames. Condition: at most a thousand frames. -/
import Derived.Test.YtkofdbccdfpllaaDoorOrU
set_option maxHeartbeats 6400000
set_option maxRecDepth 100000
namespace Go.Proofs.YtkofdbccdfpllaaDoor
set_option linter.unusedVariables false
set_option linter.unusedSimpArgs false
open Go.RowKit
theorem mid_at (o:List Nat) {k:Nat} (y:Nat) (h:k<=o.length):(mid o k y).getD k 0=y:=by
 unfold mid
 rw[List.getD,List.getElem?_append_right (by rw[List.length_take];omega)]
 have:k - (o.take k).length=0:=by rw[List.length_take];omega
 rw[this]
 rfl
theorem drop_more {o:List Nat} {j:Nat} {P:Nat->Prop} (hj:j < o.length) (h:∀ x∈o.drop (j+1),P x) (hx:P (o.getD j 0)):∀ x∈o.drop j,P x:=by
 intro x hm
 rw[List.drop_eq_getElem_cons hj] at hm
 rcases List.mem_cons.1 hm with rfl | hm
 ·simpa [List.getD,hj] using hx
 ·exact h x hm
structure RkI (w wr:World) (fs:List (Hd × List Nat)) (k:Nat) (vk vo:Value):Prop where
 le:k<=fs.length
 ok:allOk (fs.take k)=true
 ks:OwnU wr vk (keysV (fs.take k))
 os:OwnN wr vo (rk (keysV (fs.take k)))
 fk:∀ g,vk.ownBlock=some g->w.heap.size<=g
 fo:∀ g,vo.ownBlock=some g->w.heap.size<=g
 ne:∀ g,vk.ownBlock=some g->vo.ownBlock≠some g
 nb:Nb w wr
theorem RkI.next {w w3 wr:World} {fs:List (Hd × List Nat)} {k hb hd g vd kf j:Nat} {ks:List Nat} {u:Value} (N3:Nb w w3) (K3:OwnU w3 (.slice (some ⟨hb,0,none⟩) (k+1) hd) (ks++[kf])) (KP:Kp (fun x=>x=g) w3 wr) (hne:¬hb=g) (hg:w.heap.size<=g) (hh:w.heap.size<=hb)
    (ha:allOk (fs.take (k+1))=true) (ht:keysV (fs.take (k+1))=ks++[kf]) (hlt:k < fs.length) (ho:OwnN (wr.setCell ⟨g,j,none⟩ u) (.slice (some ⟨g,0,none⟩) (k+1) vd) (rk (keysV (fs.take (k+1))))) :
    RkI w (wr.setCell ⟨g,j,none⟩ u) fs (k+1) (.slice (some ⟨hb,0,none⟩) (k+1) hd) (.slice (some ⟨g,0,none⟩) (k+1) vd):=by
 have hk:Kp (fun x=>x=g) w3 (wr.setCell ⟨g,j,none⟩ u):=KP.tr (Kp.set (F:=fun x=>x=g) (p:=⟨g,j,none⟩) rfl) (fun _ h => .inl h)
 refine⟨by omega,ha,?_,ho,?_,?_,?_,N3.trans (hk.toBelow N3.size (fun x hx=>by omega))⟩
 ·rw[ht]
  exact K3.keep hk (fun x hx h=>by simp[Value.ownBlock] at hx;omega)
 ·intro x hx
  simp[Value.ownBlock] at hx
  omega
 ·intro x hx
  simp[Value.ownBlock] at hx
  omega
 ·intro x hx h
  simp[Value.ownBlock] at hx h
  omega
theorem refrank10_any (a:Option Addr) (cap:Nat) (fs:List (Hd × List Nat)) (w:World) (h:FrsAt w a cap fs) (hn:fs.length<=1000) :
    Calls Tryd.prog 7 #[.slice a fs.length cap] w fun e w'=>AnsN w (rankV fs) (rankE fs) e w'/\Nb w w':=by
 have HF:=Lib.hid h
 have hL:=h.len
 have hcap:=h.hcap
 clear h
 go_enter Tryd.func7,Tryd.ntmps7
 go_wp2
 go_loopw [4,5,13] (fun vk vo ix wr=>∃ k:Nat,ix = .int .i64 k/\RkI w wr fs k vk vo) (fun _ _ ix _=>fs.length - (intOf ix).toNat)
 case atStart=>exact⟨0,rfl,⟨Nat.zero_le _,by simp[allOk],OwnU.nil _,by rw[show rk (keysV (fs.take 0))=[] from List.length_eq_zero_iff.1 (by rw[rk_len,keysV_len];simp)];exact OwnN.nil _,by simp[Value.ownBlock],by simp[Value.ownBlock],by simp[Value.ownBlock],Nb.rfl⟩⟩
 case round =>
  obtain⟨k,rfl,hI⟩:=hrel
  have hk:=hI.le
  have HI:=Lib.hid hI
  clear hI
  by_cases hlt:k < fs.length
  ·obtain⟨b,o,rfl,hcc⟩:=HF.out.hcells (by omega)
   clear hcc
   have hat:=fun K I X R B E S D V A l=>(HF.out.below HI.out.nb).at hlt (K:=K) (I:=I) (X:=X) (R:=R) (B:=B) (E:=E) (S:=S) (D:=D) (V:=V) (A:=A) (l:=l)
   have HT:=Lib.hid (keysV_take fs hlt)
   have HA:=Lib.hid (allOk_take fs hlt)
   have HBad:=Lib.hid (fun hb=>allOk_bad (fs:=fs) hlt hb)
   obtain⟨⟨⟨K,I,X,RT,B,E,S,D,V,A⟩,l⟩,hf⟩:∃ p,p=fs.getD k dF:=⟨_,rfl⟩
   obtain⟨a',c',⟨c0,c1,c2,c3,c4,c5,c6,c7,c8,c9,c10⟩,hW,hKw,hBs,hnn⟩:=hat K I X RT B E S D V A l hf.symm
   rw[<- hf] at HT HA HBad
   clear hat hf
   have KC0:=(fun w' (n:Nb _ w')=>refkey10_any ⟨K,I,X,RT,B,E,S,D,V,A⟩ a' c' l w' (hBs.below n) hW.1)
   unfold AnsK at KC0
   simp only[Hd.cs] at KC0
   have KC:=Lib.hid KC0
   clear KC0
   have hlL:=hBs.len
   clear hW hKw hBs hnn
   have hi:(k:Int) < (fs.length:Int):=by omega
   have hklen:(keysV (fs.take k)).length=k:=by rw[keysV_len,List.length_take];omega
   have hrlen:(rk (keysV (fs.take k))).length=k:=by rw[rk_len,hklen]
   have HKL:=Lib.hid hklen
   have HRL:=Lib.hid hrlen
   cases hcase:okF ⟨K,I,X,RT,B,E,S,D,V,A⟩ l with
   | false =>
     rw[show checkN ⟨K,I,X,RT,B,E,S,D,V,A⟩ l=2 by simp[checkN,hcase]] at KC
     generalize keyV ⟨K,I,X,RT,B,E,S,D,V,A⟩ l=kv at KC
     have HX:=Lib.hid (HBad.out hcase)
     clear hcase HBad HA HT hklen hrlen
     go_wp2_with fail
     refine (KC.out _ (Nb.rfl.al _)).mono ?_
     rintro e w1 ⟨rfl,n1⟩
     have N1:=Lib.hid (HI.out.nb.tr ((Nb.rfl.al _).tr n1))
     clear n1 c0 c1 c2 c3 c4 c5 c6 c7 c8 c9 c10
     go_wp2
     go_ret2
     refine⟨?_,N1.out⟩
     rw[rankV,rankE,if_neg (by rw[HX.out];simp),if_neg (by rw[HX.out];simp)]
     exact⟨_,rfl,OwnN.nil _,by simp[Value.ownBlock]⟩
   | true =>
     rw[show checkN ⟨K,I,X,RT,B,E,S,D,V,A⟩ l=0 by simp[checkN,hcase],show keyV ⟨K,I,X,RT,B,E,S,D,V,A⟩ l=keyF ⟨K,I,X,RT,B,E,S,D,V,A⟩ by simp[keyV,hcase]] at KC
     have HA2:=Lib.hid (show allOk (fs.take (k+1))=true by rw[HA.out,HI.out.ok];simpa using hcase)
     simp only at HT
     generalize keyF ⟨K,I,X,RT,B,E,S,D,V,A⟩=kf at KC HT
     obtain⟨ks,hks⟩:∃ ks,ks=keysV (fs.take k):=⟨_,rfl⟩
     have HOs:=Lib.hid (show OwnN wr u5 (rk ks) by rw[hks];exact HI.out.os)
     have HKs:=Lib.hid (show OwnU wr u4 ks by rw[hks];exact HI.out.ks)
     rw[<- hks] at HT HKL HRL hklen hrlen
     clear hcase HBad HA hks
     have HE:=Lib.hid (show ∀ n,n<=k->(∀ x∈(rk ks).drop n,kf < ks.getD x 0)->(0 < n->ks.getD ((rk ks).getD (n - 1) 0) 0<=kf)->mid (rk ks) n k=rk (keysV (fs.take (k+1))) from fun n h1 h2 h3=>by rw[HT.out,rk_snoc ks kf n (by rw[HRL.out];exact h1) h2 h3,HKL.out])
     have HLt:=Lib.hid (fun x hx=>by have:=rk_lt ks x hx;rw[HKL.out] at this;exact this:∀ x∈rk ks,x < k)
     generalize rk ks=os at *
     clear hklen hrlen
     have kn0:=fun w' (n:Nb wr w') (w'':World) (m:Nb w' w'')=>HOs.out
     clear kn0
     go_wp2_with fail
     refine (KC.out _ (Nb.rfl.al _)).mono ?_
     rintro e w1 ⟨rfl,n1⟩
     have m1:Nb wr w1:=(Nb.rfl.al _).tr n1
     have N1:=Lib.hid m1
     clear n1 m1 c0 c1 c2 c3 c4 c5 c6 c7 c8 c9 c10 KC
     go_wp2_with (at_builtin;refine wpList_appU _ rfl (.tmp 26) (.tmp 28) rfl _ _ rfl (HKs.out.nb (Nb.al N1.out _)) w1.heap.size kf rfl (by simp) (by rw[HKL.out];omega) ?_)
     intro v2 w2 ho2 hk2 hf2
     have hsz2:w1.heap.size < w2.heap.size:=by have:=hk2.size;simp at this;omega
     have F2:=Lib.hid (show ∀ g,v2.ownBlock=some g->w.heap.size<=g/\g < w2.heap.size/\u5.ownBlock≠some g from fun g hg=>by
      refine⟨?_,ho2.lt hg,?_⟩
      ·rcases hf2 g hg with h | h
       ·exact HI.out.fk g h
       ·have h1:=N1.out.size
        have h2:=HI.out.nb.size
        first | omega | (simp at h;omega)
      ·rcases hf2 g hg with h | h
       ·exact HI.out.ne g h
       ·intro h5
        have h6:=HOs.out.lt h5
        have h1:=N1.out.size
        first | omega | (simp at h;omega))
     have O2:=Lib.hid ((HOs.out.nb (Nb.al N1.out _)).keep hk2 (fun g hg h4=>HI.out.ne g h4 hg))
     have N2:=Lib.hid (show Nb w w2 from (Nb.al (HI.out.nb.tr N1.out) _).trans (hk2.toBelow (Nat.le_trans (HI.out.nb.tr N1.out).size (by simp)) (fun g hg=>HI.out.fk g hg)))
     have K2:=Lib.hid ho2
     clear ho2 hk2 hf2 hsz2
     obtain⟨va,vc,hve,_,_,_⟩:=O2.out.shape
     rw[HRL.out] at hve
     subst hve
     go_wp2_with (at_builtin;refine wpList_appN _ rfl (.tmp 32) (.tmp 34) rfl _ _ rfl (O2.out.nb (Nb.rfl.al _)) w2.heap.size k rfl (by simp) (by rw[HRL.out];omega) ?_)
     intro v3 w3 ho3 hk3 hf3
     have F3:=Lib.hid (show ∀ g,v3.ownBlock=some g->w.heap.size<=g/\v2.ownBlock≠some g from fun g hg=>by
      rcases hf3 g hg with h | h
      ·exact⟨HI.out.fo g h,fun h2=>(F2.out g h2).2.2 h⟩
      ·have h1:=N2.out.size
       refine⟨by first | omega | (simp at h;omega),fun h2 => ?_⟩
       have:=(F2.out g h2).2.1
       first | omega | (simp at h;omega))
     have K3:=Lib.hid ((K2.out.nb (Nb.rfl.al _)).keep hk3 (fun g hg h4=>(F2.out g hg).2.2 h4))
     have N3:=Lib.hid (show Nb w w3 from (Nb.al N2.out _).trans (hk3.toBelow (Nat.le_trans N2.out.size (by simp)) (fun g hg=>HI.out.fo g hg)))
     obtain⟨vb,vd,hve3,hvb,hvc3,hvm3⟩:=ho3.shape
     obtain⟨h,hd,hve2,hvh,hvc2,hvm2⟩:=K3.out.shape
     have hl3:(os++[k]).length=k+1:=by rw[List.length_append,HRL.out,List.length_singleton]
     have hl2:(ks++[kf]).length=k+1:=by rw[List.length_append,HKL.out,List.length_singleton]
     obtain⟨g,rfl⟩:=hvb (by omega)
     obtain⟨hb,rfl⟩:=hvh (by omega)
     rw[hl3] at hve3 hvc3
     rw[hl2] at hve2 hvc2
     unfold maxLen at hvm3 hvm2
     subst hve3 hve2
     have O3:=Lib.hid ho3
     have hg3:=(F3.out g rfl).1
     have hne:¬hb=g:=fun h=>(F3.out g rfl).2 (by rw[h];rfl)
     have HNe:=Lib.hid hne
     have HFz:=Lib.hid (fun (w':World) (l:List Nat) (h:OwnN w' (.slice (some ⟨g,0,none⟩) (k+1) vd) l) (j:Nat)=>h.frozen (g:=g) rfl j)
     have HLT:=Lib.hid (show g < w3.heap.size from ho3.lt rfl)
     clear ho3 hk3 hf3 hvb hvh hl3 hl2 hne
     go_wp2_with fail
     go_loopw [10] (fun v wv=>∃ (j y:Nat),v = .int .i64 j/\j<=k/\OwnN wv (.slice (some ⟨g,0,none⟩) (k+1) vd) (mid os j y)/\Hid (∀ x∈os.drop j,kf < ks.getD x 0)/\Kp (fun x=>x=g) w3 wv) (fun v _=>(intOf v).toNat)
     case atStart=>exact⟨k,k,rfl,Nat.le_refl _,by have:=mid_start os k;rw[HRL.out] at this;rw[this];exact O3.out,Lib.hid (by rw[List.drop_eq_nil_of_le (by rw[HRL.out];exact Nat.le_refl _)];simp),Kp.rfl⟩
     case round =>
      obtain⟨j,y,rfl,hj,hom,hdr,hkp⟩:=hrel
      have OM:=Lib.hid hom
      have KP:=Lib.hid hkp
      have hgl:g < wr.heap.size:=hom.lt rfl
      have HDr:=hdr
      have hjo:j<=os.length:=by rw[HRL.out];exact hj
      have cj:wr.cell? ⟨g,j,none⟩=some (.int .i64 (y:Nat)):=by
       have:=hom.cell j (by rw[mid_len os y hjo];omega)
       rwa[mid_at os y hjo] at this
      have fj:wr.frozen? ⟨g,j,none⟩=false:=hom.frozen rfl j
      have OF:=Lib.hid (fun (he:mid os j k=rk (keysV (fs.take (k+1))))=>show OwnN (wr.setCell ⟨g,j,none⟩ (.int .i64 (k:Int))) (.slice (some ⟨g,0,none⟩) (k+1) vd) (rk (keysV (fs.take (k+1)))) by
       have:=hom.set j (by rw[mid_len os y hjo];omega) k
       rw[mid_end os y k hjo,he] at this
       exact this)
      have hjk:(j:Int) < (k:Int)+1:=by omega
      by_cases hj0:j=0
      ·subst hj0
       have OF2:=Lib.hid (OF.out (HE.out 0 (Nat.zero_le _) HDr.out (fun h=>by omega)))
       clear hom hkp hdr hjo OF
       go_wp2
       go_roundw
       case rel=>exact⟨k+1,by go_num,RkI.next N3.out K3.out KP.out HNe.out hg3 (F2.out hb rfl).1 HA2.out HT.out hlt OF2.out⟩
       case measure=>simp[intOf];omega
      ·obtain⟨i,rfl⟩:∃ i,j=i+1:=⟨j - 1,by omega⟩
       have hio:i < os.length:=by omega
       have ci:wr.cell? ⟨g,i,none⟩=some (.int .i64 (os.getD i 0:Nat)):=by
        have:=hom.cell i (by rw[mid_len os y hjo];omega)
        rwa[mid_get os y hio] at this
       have OS:=Lib.hid (show OwnN (wr.setCell ⟨g,i+1,none⟩ (.int .i64 (os.getD i 0:Nat))) (.slice (some ⟨g,0,none⟩) (k+1) vd) (mid os i (os.getD i 0)) by
        have:=hom.set (i+1) (by rw[mid_len os y hjo];omega) (os.getD i 0)
        rw[mid_step os y hio] at this
        exact this)
       have hxk:os.getD i 0 < k:=by
        apply HLt.out
        have:os.getD i 0=os[i]:=by simp[List.getD,hio]
        rw[this]
        exact List.getElem_mem hio
       have cx:wr.cell? ⟨hb,os.getD i 0,none⟩=some (.int .u64 (ks.getD (os.getD i 0) 0:Nat)):=by
        have:=(K3.out.keep KP.out (fun x hx h=>by simp[Value.ownBlock] at hx;have:=HNe.out;omega)).cell (os.getD i 0) (by rw[List.length_append,HKL.out,List.length_singleton];omega)
        rwa[show (ks++[kf]).getD (os.getD i 0) 0=ks.getD (os.getD i 0) 0 by simp only[List.getD];rw[List.getElem?_append_left (by rw[HKL.out];exact hxk)]] at this
       by_cases hgt:kf < ks.getD (os.getD i 0) 0
       ·have HDm:=Lib.hid (drop_more (P:=fun x=>kf < ks.getD x 0) hio HDr.out hgt)
        have d1:decide (kf < ks.getD (os.getD i 0) 0)=true:=decide_eq_true hgt
        have d1':decide ((kf:Int) < (ks.getD (os.getD i 0) 0:Nat))=true:=decide_eq_true (by omega)
        clear hom hkp hdr hjo OF hio hgt hj0
        generalize hkx:ks.getD (os.getD i 0) 0=kx at cx d1 d1'
        clear hkx
        generalize hxx:os.getD i 0=x at ci cx hxk OS
        have hxi:(x:Int) < (k:Int)+1:=by omega
        have hii:(i:Int) < (k:Int)+1:=by omega
        have k1:¬i=i+1:=by omega
        clear hxx
        go_wp2_with fail
        go_roundw
        case rel=>exact⟨i,x,by first | rfl | go_num,by omega,OS.out,HDm,KP.out.tr (Kp.set (F:=fun x=>x=g) (p:=⟨g,i+1,none⟩) rfl) (fun _ h => .inl h)⟩
        case measure=>simp[intOf]
       ·have OF2:=Lib.hid (OF.out (HE.out (i+1) (by omega) HDr.out (fun _=>by rw[Nat.add_sub_cancel];omega)))
        have d1:decide (kf < ks.getD (os.getD i 0) 0)=false:=decide_eq_false hgt
        have d1':decide ((kf:Int) < (ks.getD (os.getD i 0) 0:Nat))=false:=decide_eq_false (by omega)
        clear hom hkp hdr hjo OF hio hgt hj0
        generalize hkx:ks.getD (os.getD i 0) 0=kx at cx d1 d1'
        clear hkx
        generalize hxx:os.getD i 0=x at ci cx hxk OS
        have hxi:(x:Int) < (k:Int)+1:=by omega
        have hii:(i:Int) < (k:Int)+1:=by omega
        clear hxx
        go_wp2_with fail
        go_roundw
        case rel=>exact⟨k+1,by go_num,RkI.next N3.out K3.out KP.out HNe.out hg3 (F2.out hb rfl).1 HA2.out HT.out hlt OF2.out⟩
        case measure=>simp[intOf];omega
  ·obtain rfl:k=fs.length:=by omega
   have HOk:=Lib.hid (show allOk fs=true by have:=HI.out.ok;rwa[List.take_length] at this)
   have HOs:=Lib.hid (show OwnN wr u5 (rk (keysV fs)) by have:=HI.out.os;rwa[List.take_length] at this)
   go_wp2
   go_ret2
   refine⟨?_,HI.out.nb⟩
   rw[rankV,rankE,if_pos HOk.out,if_pos HOk.out]
   exact⟨_,rfl,HOs.out,HI.out.fo⟩
theorem reffirst10_any (a:Option Addr) (cap:Nat) (fs:List (Hd × List Nat)) (w:World) (h:FrsAt w a cap fs) (hn:fs.length<=1000) :
    Calls Tryd.prog 9 #[.slice a fs.length cap] w fun e w'=>e = .returned (.tuple #[.int .i64 (firstV fs:Nat),.int .i64 (firstE fs:Nat)])/\Nb w w':=by
 have hr:=refrank10_any a cap fs w h hn
 have hL:=h.len
 clear h
 unfold firstE firstV
 unfold AnsN rankE at hr
 have hrl:(rankV fs).length=if allOk fs then fs.length else 0:=by
  unfold rankV
  split
  ·rw[rk_len,keysV_len]
  ·rfl
 generalize rankV fs=R at *
 cases hok:allOk fs with
 | false =>
   simp only[hok,Bool.false_eq_true,if_false] at hr hrl ⊢
   obtain rfl:R=[]:=List.length_eq_zero_iff.1 hrl
   have HR:=Lib.hid hr
   have e0:([]:List Nat).getD 0 0=0:=rfl
   rw[e0]
   clear hr hrl hok e0
   go_enter Tryd.func9,Tryd.ntmps9
   go_wp2_with fail
   refine HR.out.mono ?_
   rintro e w1 ⟨⟨v,rfl,o1,f1⟩,n1⟩
   have N1:=Lib.hid n1
   clear o1 f1 n1
   go_wp2
   go_ret2
   exact⟨rfl,N1.out⟩
 | true =>
   simp only[hok,if_true] at hr hrl ⊢
   have HR:=Lib.hid hr
   have HRL:=Lib.hid hrl
   clear hr hok hrl
   by_cases h0:fs.length=0
   ·rw[if_pos h0]
    have hz:R=[]:=List.length_eq_zero_iff.1 (by rw[HRL.out];exact h0)
    subst hz
    have e0:([]:List Nat).getD 0 0=0:=rfl
    rw[e0]
    clear h0 e0
    go_enter Tryd.func9,Tryd.ntmps9
    go_wp2_with fail
    refine HR.out.mono ?_
    rintro e w1 ⟨⟨v,rfl,o1,f1⟩,n1⟩
    obtain⟨a1,c1,rfl,_,_,_⟩:=o1.shape
    have N1:=Lib.hid n1
    clear o1 f1 n1
    go_wp2
    go_ret2
    exact⟨rfl,N1.out⟩
   ·rw[if_neg h0]
    generalize hx:R.getD 0 0=x
    have HX:=Lib.hid hx
    clear hx
    go_enter Tryd.func9,Tryd.ntmps9
    go_wp2_with fail
    refine HR.out.mono ?_
    rintro e w1 ⟨⟨v,rfl,o1,f1⟩,n1⟩
    obtain⟨a1,c1,rfl,ha,_,_⟩:=o1.shape
    obtain⟨g,rfl⟩:=ha (by rw[HRL.out];omega)
    have c0:=o1.cell 0 (by rw[HRL.out];omega)
    rw[HRL.out]
    rw[HX.out] at c0
    have N1:=Lib.hid n1
    have d1:((fs.length:Int)==0)=false:=by rw[beq_eq_false_iff_ne];omega
    have d2:(0:Int) < (fs.length:Int):=by omega
    clear o1 f1 n1 ha
    go_wp2
    go_ret2
    exact⟨rfl,N1.out⟩
end Go.Proofs.YtkofdbccdfpllaaDoor
