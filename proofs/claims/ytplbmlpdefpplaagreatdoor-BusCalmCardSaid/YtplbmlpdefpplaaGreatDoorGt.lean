/- Contracts of the document's Full, Stuffed and Put, and more. Conditions: as each says. -/
import Derived.Test.YtplbmlpdefpplaaGreatDoorGs
set_option maxHeartbeats 1600000
set_option maxRecDepth 100000
namespace Go.Proofs.YtplbmlpdefpplaaGreatDoor
set_option linter.unusedVariables false
set_option linter.unusedSimpArgs false
open Go.RowKit
theorem zcH (a:Option Addr) (cap:Nat) (l:List Nat) (w:World) (h:l.length < 5) :
    Calls Tryz.prog 85 #[.slice a l.length cap] w fun e w'=>e = .returned (.bool false)/\Nb w w':=by
 have d0:decide (5<=(l.length:Int))=false:=by simp;omega
 go_enter Tryz.func85,Tryz.ntmps85
 go_wp2
 go_quiet (fail)
 go_wp2
 go_ret
 exact⟨rfl,Nb.drewN _ _⟩
theorem zeV (b o cap n x1 x2 x3 x4 x5:Nat) (w:World) (hn:n<=9223372036854775807) (h5:5<=n)
    (c1:w.cell? ⟨b,o+(n - 1),none⟩=some (.int .u8 (x1:Int))) (c2:w.cell? ⟨b,o+(n - 2),none⟩=some (.int .u8 (x2:Int))) (c3:w.cell? ⟨b,o+(n - 3),none⟩=some (.int .u8 (x3:Int))) (c4:w.cell? ⟨b,o+(n - 4),none⟩=some (.int .u8 (x4:Int))) (c5:w.cell? ⟨b,o+(n - 5),none⟩=some (.int .u8 (x5:Int))) :
    Calls Tryz.prog 85 #[.slice (some ⟨b,o,none⟩) n cap] w fun e w'=>e = .returned (.bool (decide (x1=x2/\x1=x3/\x1=x4/\x1=x5)))/\Nb w w':=by
 have d0:decide (5<=(n:Int))=true:=by simp;omega
 by_cases e2:x1=x2
 ·subst e2
  have d2:((x1:Int)==(x1:Int))=true:=by simp
  by_cases e3:x1=x3
  ·subst e3
   by_cases e4:x1=x4
   ·subst e4
    by_cases e5:x1=x5
    ·subst e5
     go_enter Tryz.func85,Tryz.ntmps85
     go_wp2
     go_quiet (fail)
     go_wp2
     go_ret
     exact⟨congrArg (fun x=>Ending.returned (Value.bool x)) (by simp),Nb.drewN _ _⟩
    ·have d5:((x1:Int)==(x5:Int))=false:=by rw[beq_eq_false_iff_ne];omega
     go_enter Tryz.func85,Tryz.ntmps85
     go_wp2
     go_quiet (fail)
     go_wp2
     go_ret
     exact⟨congrArg (fun x=>Ending.returned (Value.bool x)) (by simp;omega),Nb.drewN _ _⟩
   ·have d4:((x1:Int)==(x4:Int))=false:=by rw[beq_eq_false_iff_ne];omega
    go_enter Tryz.func85,Tryz.ntmps85
    go_wp2
    go_quiet (fail)
    go_wp2
    go_ret
    exact⟨congrArg (fun x=>Ending.returned (Value.bool x)) (by simp;omega),Nb.drewN _ _⟩
  ·have d3:((x1:Int)==(x3:Int))=false:=by rw[beq_eq_false_iff_ne];omega
   go_enter Tryz.func85,Tryz.ntmps85
   go_wp2
   go_quiet (fail)
   go_wp2
   go_ret
   exact⟨congrArg (fun x=>Ending.returned (Value.bool x)) (by simp;omega),Nb.drewN _ _⟩
 ·have d2:((x1:Int)==(x2:Int))=false:=by rw[beq_eq_false_iff_ne];omega
  go_enter Tryz.func85,Tryz.ntmps85
  go_wp2
  go_quiet (fail)
  go_wp2
  go_ret
  exact⟨congrArg (fun x=>Ending.returned (Value.bool x)) (by simp;omega),Nb.drewN _ _⟩
theorem zgX (a:Option Addr) (cap:Nat) (l:List Nat) (w:World) (h:Bs w a cap l) :
    Calls Tryz.prog 85 #[.slice a l.length cap] w fun e w'=>e = .returned (.bool (full l))/\Nb w w':=by
 by_cases h5:5<=l.length
 ·obtain⟨b,o,rfl,hc⟩:=h.hcells (by omega)
  refine(zeV b o cap l.length _ _ _ _ _ w h.len h5 (hc _ (by omega)) (hc _ (by omega)) (hc _ (by omega)) (hc _ (by omega)) (hc _ (by omega))).mono ?_
  rintro e w' ⟨rfl,hnb⟩
  refine⟨congrArg (fun x=>Ending.returned (Value.bool x)) ?_,hnb⟩
  rw[Bool.eq_iff_iff,z75,decide_eq_true_eq]
  have s2:l.length - 1 - 1=l.length - 2:=by omega
  have s3:l.length - 1 - 2=l.length - 3:=by omega
  have s4:l.length - 1 - 3=l.length - 4:=by omega
  have s5:l.length - 1 - 4=l.length - 5:=by omega
  constructor
  ·rintro⟨h2,h3,h4,h6⟩
   refine⟨h5,fun j hj => ?_⟩
   rcases(by omega:j=0\/j=1\/j=2\/j=3\/j=4)with rfl | rfl | rfl | rfl | rfl
   ·rfl
   ·rw[s2,h2]
   ·rw[s3,h3]
   ·rw[s4,h4]
   ·rw[s5,h6]
  ·rintro⟨_,hj⟩
   exact⟨by rw[<- hj 1 (by omega),s2],by rw[<- hj 2 (by omega),s3],by rw[<- hj 3 (by omega),s4],by rw[<- hj 4 (by omega),s5]⟩
 ·have hf:full l=false:=by
   cases hf:full l with
   | false=>rfl
   | true=>exact absurd ((z75 l).1 hf).1 h5
  rw[hf]
  exact zcH a cap l w (by omega)
theorem z04.last{w:World}{v:Value}{l:List Nat}(h:z04 w v l)(hl:0 < l.length):∃g cap,v = .slice (some ⟨g,0,none⟩) l.length cap/\w.cell? ⟨g,l.length - 1,none⟩=some (.int .u8 (zl l:Nat)):=by
 obtain⟨g,cap,rfl⟩:=h.shape hl
 refine⟨g,cap,rfl,?_⟩
 rw[z1K]
 exact h.cell (l.length - 1) (by omega)
theorem zgC{l:List Nat}(h:full l=true):5<=l.length:=((z75 l).1 h).1
theorem z1n (a:Option Addr) (cap:Nat) (l:List Nat) (w:World) (h:Bs w a cap l) (hc:chk l=true) :
    Calls Tryz.prog 48 #[.slice a l.length cap] w fun e w'=>(∃a' c',e = .returned (.slice a' (zh l).length c')/\zf w w' (.slice a' (zh l).length c') (zh l))/\Nb w w':=by
 have hlen:=z1h hc
 have hbit:=zH (z0C hc)
 have H:=zH h
 clear h hc
 go_enter Tryz.func48,Tryz.ntmps48
 go_wp2
 go_loopw [3,8] (fun v i wr=>∃k:Nat,k<=l.length/\i = .int .i64 k/\zf w wr v (zh (l.take k))/\Nb w wr) (fun _ i _=>l.length - (intOf i).toNat)
 case atStart=>exact⟨0,Nat.zero_le _,rfl,zf.nil _ _,Nb.rfl⟩
 case round =>
  obtain⟨k,hk,rfl,hfr,hnb⟩:=hrel
  by_cases hlt:k < l.length
  ·obtain⟨b,o,rfl,hcl⟩:=(H.out.below hnb).hcells (by omega)
   obtain⟨x,hx⟩:∃x,l[k]? = some x:=⟨l[k],by simp[hlt]⟩
   have c1:=hcl k hlt
   rw[show l.getD k 0=x from by simp[List.getD,hx]]at c1
   have hx1:=hbit.out x (List.mem_of_getElem? hx)
   have hbT:∀y∈l.take k,y<=1:=fun y hy=>hbit.out y (List.mem_of_mem_take hy)
   have hl2:=(zr (l.take k)).1
   rw[List.length_take]at hl2
   have hP:(zh (l.take k)).length<=131072:=by omega
   have hlast:=z1a (z0j hbT)
   have htk:zh (l.take (k+1))=z00 (zh (l.take k)) x:=by rw[zX hx,z0d]
   have HT:=zH htk
   obtain⟨aP,cP,rfl,hbs,_⟩:=hfr.1.bs
   have hfull:=zgX aP cP _ wr hbs
   have HF:=zH hfull
   have HR:=zH hfr
   clear hcl hx htk hfull hl2 hbs hbT
   go_wp2_with fail
   refine HF.out.mono ?_
   rintro e w2 ⟨rfl,hnb2⟩
   have hfr2:=HR.out.keep hnb2
   have nb2:=hnb.tr hnb2
   clear HF HR c1 hnb hnb2
   cases hf:full (zh (l.take k)) with
   | true =>
     have h5:=zgC hf
     have hst:z00 (zh (l.take k)) x=(zh (l.take k)++[1 - zl (zh (l.take k))])++[x]:=by unfold z00;rw[hf];simp
     rw[hst]at HT
     obtain⟨g,c,hv,hcell⟩:=hfr2.1.last (by omega)
     simp only[Value.slice.injEq,true_and]at hv
     obtain⟨rfl,rfl⟩:=hv
     clear hst hf
     generalize zh (l.take k)=P at *
     obtain⟨q,hq⟩:∃q,q=zl P:=⟨_,rfl⟩
     rw[<- hq]at hcell hlast HT
     have hsub:(1:Int) - (q:Int)=((1 - q:Nat):Int):=by omega
     clear hq
     have HS:=zH hsub
     clear hsub
     have hal1:=hfr2.1.keep (Kp.alloc (F:=fun _=>False) (o := .cells #[.int .u8 ((1 - q:Nat):Int)] 5)) (by simp)
     have FR2:=zH hfr2
     have NB2:=zH nb2
     clear hfr2 nb2
     go_wp2_with (at_builtin;rw[HS.out];refine zd _ rfl (.tmp 14) (.tmp 22) rfl _ P rfl hal1 _ _ [1 - q] 1 rfl rfl (Bs.one w2 (1 - q) (by omega) _) (by simp) (by simp;omega) ?_)
     intro v3 w3 hown3 hk3 hf3
     obtain⟨hfr3,nb3⟩:=zf.app FR2.out NB2.out hown3 hk3 (by simpa using hf3)
     obtain⟨P2,hP2⟩:∃P2,P2=P++[1 - q]:=⟨_,rfl⟩
     have hl2:0 < P2.length/\P2.length<=131073:=by rw[hP2];simp;omega
     rw[<- hP2]at hown3 HT hfr3
     clear hP2
     obtain⟨g3,c3,rfl⟩:=hown3.shape hl2.1
     have hl3:=hl2.2
     clear hl2
     have hal3:=hown3.keep (Kp.alloc (F:=fun _=>False) (o := .cells #[.int .u8 (x:Int)] 5)) (by simp)
     have FR3:=zH hfr3
     have NB3:=zH nb3
     clear hfr3 nb3 hown3 hk3 hf3 hal1 hcell FR2 NB2
     go_wp2_with (at_builtin;refine zd _ rfl (.tmp 24) (.tmp 26) rfl _ P2 rfl hal3 _ _ [x] 1 rfl rfl (Bs.one w3 x (by omega) _) (by simp) (by simp;omega) ?_)
     intro v4 w4 hown4 hk4 hf4
     have hfin:=zf.app FR3.out NB3.out hown4 hk4 (by simpa using hf4)
     have HFi:=zH hfin
     clear hfin hown4 hk4 hf4 FR3 NB3 hal3
     go_wp2
     go_roundw
     case rel=>exact⟨k+1,by omega,by go_num,by rw[HT.out];exact HFi.out.1,HFi.out.2⟩
     case measure=>simp[intOf];omega
   | false =>
     have hst:z00 (zh (l.take k)) x=zh (l.take k)++[x]:=by unfold z00;rw[hf];simp
     rw[hst]at HT
     clear hst hf hlast
     generalize zh (l.take k)=P at *
     have hal1:=hfr2.1.keep (Kp.alloc (F:=fun _=>False) (o := .cells #[.int .u8 (x:Int)] 5)) (by simp)
     have FR2:=zH hfr2
     have NB2:=zH nb2
     clear hfr2 nb2
     go_wp2_with (at_builtin;refine zd _ rfl (.tmp 24) (.tmp 26) rfl _ P rfl hal1 _ _ [x] 1 rfl rfl (Bs.one w2 x (by omega) _) (by simp) (by simp;omega) ?_)
     intro v4 w4 hown4 hk4 hf4
     have hfin:=zf.app FR2.out NB2.out hown4 hk4 (by simpa using hf4)
     have HFi:=zH hfin
     clear hfin hown4 hk4 hf4 FR2 NB2 hal1
     go_wp2
     go_roundw
     case rel=>exact⟨k+1,by omega,by go_num,by rw[HT.out];exact HFi.out.1,HFi.out.2⟩
     case measure=>simp[intOf];omega
  ·obtain rfl:k=l.length:=by omega
   rw[List.take_of_length_le (Nat.le_refl _)]at hfr
   obtain⟨a',c',rfl,_,_⟩:=hfr.1.bs
   have HR:=zH hfr
   clear hfr
   go_wp2
   go_ret
   exact⟨⟨_,_,rfl,HR.out⟩,hnb⟩
end Go.Proofs.YtplbmlpdefpplaaGreatDoor
