/- For every number of places and all frames the law QueueRoom answers true and leaves its arguments as they were; the package's table of longer sizes is tied to the program's text. No conditions. -/
import Derived.Test.YtdedoeeekcfkpaaDoorRows
import Derived.Test.YtdedoeeekcfkpaaDoorCards
import Derived.Test.YtdedoeeekcfkpaaDoorTie
import Derived.Test.YtdedoeeekcfkpaaDoorGqc
import Derived.Test.YtdedoeeekcfkpaaDoorQuS
import Derived.Test.YtdedoeeekcfkpaaDoorGj
import Derived.Test.YtdedoeeekcfkpaaDoorGor
import Derived.Test.YtdedoeeekcfkpaaDoorGe
import Derived.Test.YtdedoeeekcfkpaaDoorGa
import Derived.WalkKit
import Derived.ProofKit
import Derived.OpenShut
import Derived.ShutString
import Derived.ChangeOld
import Derived.Below
import Derived.Carry
import Derived.Lib.SmallJoins
import Derived.Deep.RegionWith
import Derived.Deep.RegionHeld3
import Derived.LaidMore
import Derived.LaidLaws
import Derived.Stop.Joined
import Derived.SevenTiedAt
set_option maxHeartbeats 8000000
set_option maxRecDepth 100000
namespace Go.Proofs.YtdedoeeekcfkpaaDoor.queueRoom
open Go.ChangeShapes Go.WideShapes Go.ChangeAt Go.RowKit Go.Joins
set_option linter.unusedVariables false
set_option linter.unusedSimpArgs false
theorem own:ownKnob Tryd.prog.godebug=none:=by kernel_rfl
theorem laidOut:laidOutB Tryd.prog=true:=by kernel_rfl
theorem put_cases {q:Qu} (h:q.Full) (f:Hd) (l:List Nat):(okF f l=false/\q.putE f l=2/\q.putN f l=0/\q.put f l=q)\/(okF f l=true/\q.room<=q.last/\q.putE f l=8/\q.putN f l=0/\q.put f l=q)\/(okF f l=true/\q.last < q.room/\q.putE f l=0/\q.putN f l=q.last+1):=by
 have e:=h.len
 cases ho:okF f l with
 | false =>
   have h2:q.putE f l=2:=by unfold Qu.putE;rw[if_pos ho]
   exact .inl ⟨rfl,h2,by unfold Qu.putN;rw[if_neg (by omega)],Qu.put_no (by omega)⟩
 | true =>
   by_cases hr:q.room<=q.its.length
   ·have h2:q.putE f l=8:=by unfold Qu.putE;rw[if_neg (by simp[ho]),if_pos hr]
    exact .inr (.inl ⟨rfl,by omega,h2,by unfold Qu.putN;rw[if_neg (by omega)],Qu.put_no (by omega)⟩)
   ·have h2:q.putE f l=0:=by unfold Qu.putE;rw[if_neg (by simp[ho]),if_neg hr]
    exact .inr (.inr ⟨rfl,by omega,h2,by unfold Qu.putN;rw[if_pos h2]⟩)
theorem f14_ok:okF (f14 1) [1%256]=true:=by decide +kernel
theorem walk (w:World) (hK:Longer w) (a0:Int) (w0:(Lit.int .i64 a0).wf=true) (a1:Option Addr) (cap1:Nat) (l1:List (Hd × List Nat)) (h1:FrsAt w a1 cap1 l1) (n1:a1=none->cap1=0) :
    Calls Tryd.prog 6 #[.int .i64 a0,.slice a1 l1.length cap1] w fun e w'=>e = .returned (.bool true)/\Nb w w':=by
 have HK:=Lib.hid hK
 have HF:=Lib.hid h1
 have AL:=Lib.hid (fun w' (n:Nb w w')=>alive14_any w' (hK.below n))
 have hL1:=h1.len
 clear hK h1 n1
 by_cases hr:a0 < 0\/64 < a0
 ·have NB:=Lib.hid (fun w' (m:Nb w w')=>newQ_bad a0 hr w' (HK.out.below m))
  clear hr w0
  go_enter Tryd.func6,Tryd.ntmps6
  go_wp2_with fail
  refine (AL.out _ Nb.rfl).mono ?_
  rintro e w1 ⟨rfl,n1⟩
  have K1:=Lib.hid n1
  clear n1
  go_wp2_with fail
  refine (NB.out _ K1.out).mono ?_
  rintro e w2 ⟨rfl,n2⟩
  have K2:=Lib.hid (K1.out.tr n2)
  clear n2
  go_wp2
  go_ret
  exact⟨rfl,K2.out⟩
 obtain⟨n,rfl⟩:=Int.eq_ofNat_of_zero_le (show 0<=a0 by omega)
 have hn:n<=64:=by omega
 clear hr w0
 by_cases hbig:100 < l1.length
 ·have d0:decide ((100:Int) < (l1.length:Int))=true:=decide_eq_true (by omega)
  clear hbig
  go_enter Tryd.func6,Tryd.ntmps6
  go_wp2_with fail
  refine (AL.out _ Nb.rfl).mono ?_
  rintro e w1 ⟨rfl,n1⟩
  have K1:=Lib.hid n1
  clear n1
  go_wp2_with fail
  refine (newQ_any n hn _ (HK.out.below K1.out)).mono ?_
  rintro e w2 ⟨R,F,rfl,g1,g2,g3⟩
  have N2:=Lib.hid (show QuX w w2 _ (⟨n,0,[]⟩:Qu) noX from QuX.new g1 g2 g3 K1.out)
  clear g1 g2 g3
  go_wp2
  go_ret
  exact⟨rfl,N2.out.nb⟩
 have d0:decide ((100:Int) < (l1.length:Int))=false:=decide_eq_false (by omega)
 have hle:l1.length<=100:=by omega
 clear hbig
 go_enter Tryd.func6,Tryd.ntmps6
 go_wp2_with fail
 refine (AL.out _ Nb.rfl).mono ?_
 rintro e w1 ⟨rfl,n1⟩
 have K1:=Lib.hid n1
 clear n1
 go_wp2_with fail
 refine (newQ_any n hn _ (HK.out.below K1.out)).mono ?_
 rintro e w2 ⟨R,F,rfl,g1,g2,g3⟩
 have N2:=Lib.hid (show QuX w w2 _ (⟨n,0,[]⟩:Qu) noX from QuX.new g1 g2 g3 K1.out)
 clear g1 g2 g3
 generalize Value.pointer (some ⟨R,0,none⟩)=vq at *
 go_wp2
 go_loopw [7,36] (fun nv ix wr=>∃ k:Nat,k<=l1.length/\ix = .int .i64 k/\nv = .int .i64 (((⟨n,0,[]⟩:Qu).puts (l1.take k)).last:Nat)/\QuX w wr vq ((⟨n,0,[]⟩:Qu).puts (l1.take k)) noX) (fun _ ix _=>l1.length - (intOf ix).toNat)
 case atStart=>exact⟨0,Nat.zero_le _,rfl,rfl,N2.out⟩
 case round =>
  obtain⟨k,hk,rfl,rfl,hN⟩:=hrel
  have N:=Lib.hid hN
  clear hN N2
  have hpl:((⟨n,0,[]⟩:Qu).puts (l1.take k)).last<=100:=by
   have h:=puts_last ⟨n,0,[]⟩ (l1.take k)
   rw[List.length_take] at h
   have:min k l1.length<=100:=by omega
   simp only at h
   omega
  have hfu:=(Qu.Full.new n).puts (l1.take k)
  have hro:((⟨n,0,[]⟩:Qu).puts (l1.take k)).room=n:=Qu.puts_room _ _
  by_cases hlt:k < l1.length
  ·have hlt':decide ((k:Int) < (l1.length:Int))=true:=decide_eq_true (by omega)
   have hsn:=fs_take l1 hlt
   obtain⟨⟨⟨Kx,Ix,Xx,Rx,Bx,Ex,Sx,Dx,Vx,Ax⟩,lx⟩,hx⟩:∃ x,l1.getD k dF=x:=⟨_,rfl⟩
   obtain⟨bf,of,rfl,-⟩:=HF.out.hcells (by omega)
   obtain⟨pa,pc,hcl,hWd,hb,hpn⟩:=HF.out.atW hlt hx
   obtain⟨v0,v1,v2,v3,v4,v5,v6,v7,v8,v9,v10⟩:=hcl wr N.out.nb
   rw[hx] at hsn
   have hq:=Qu.puts_snoc ⟨n,0,[]⟩ (l1.take k) (⟨Kx,Ix,Xx,Rx,Bx,Ex,Sx,Dx,Vx,Ax⟩,lx)
   rw[<- hsn] at hq
   simp only at hq
   obtain⟨q',hq'⟩:∃ q',(⟨n,0,[]⟩:Qu).puts (l1.take (k+1))=q':=⟨_,rfl⟩
   rw[hq'] at hq
   have HQ:=Lib.hid hq'
   have hNA:=N.out.addB #[.int .i64 Kx,.int .u32 Ix,.bool Xx,.bool Rx,.bool Bx,.bool Ex,.bool Sx,.int .u8 Dx,.int .u8 Vx,.int .u32 Ax,.slice pa lx.length pc] 36
   have hBX:=Blk.new wr #[.int .i64 Kx,.int .u32 Ix,.bool Xx,.bool Rx,.bool Bx,.bool Ex,.bool Sx,.int .u8 Dx,.int .u8 Vx,.int .u32 Ax,.slice pa lx.length pc] 36
   have hp:=hNA.put ⟨Kx,Ix,Xx,Rx,Bx,Ex,Sx,Dx,Vx,Ax⟩ pa pc lx (HK.out.below hNA.nb) (hb.below hNA.nb) hpn hWd (by omega)
   have hck:=fun w' (m:Nb w w')=>check5_any ⟨Kx,Ix,Xx,Rx,Bx,Ex,Sx,Dx,Vx,Ax⟩ pa pc lx w' (hb.below m) (HK.out.below m)
   have hf2:=hfu.put ⟨Kx,Ix,Xx,Rx,Bx,Ex,Sx,Dx,Vx,Ax⟩ lx
   have hca:=put_cases hfu ⟨Kx,Ix,Xx,Rx,Bx,Ex,Sx,Dx,Vx,Ax⟩ lx
   rw[<- hq] at hp hf2
   generalize (⟨n,0,[]⟩:Qu).puts (l1.take k)=q at *
   simp only[Hd.cs] at hp hck
   have HP:=Lib.hid hp
   have HNA:=Lib.hid hNA
   have HBX:=Lib.hid hBX
   have HLE:=Lib.hid hf2.len
   have HQQ:=Lib.hid hq
   clear hcl hWd hb hpn hx hsn hq' hp hNA hBX hq hf2
   rcases hca with ⟨c1,c2,c3,c4⟩ | ⟨c1,cr,c2,c3,c4⟩ | ⟨c1,cr,c2,c3⟩
   ·rw[c2,c3] at HP
    have HLA:=Lib.hid (show q'.last=q.last by rw[HQQ.out,c4])
    have HLEN:=Lib.hid (show q'.its.length=q.last by rw[HLE.out,HLA.out])
    have HC:=Lib.hid (fun w' (m:Nb w w')=>by have h:=hck w' m;rw[show checkN ⟨Kx,Ix,Xx,Rx,Bx,Ex,Sx,Dx,Vx,Ax⟩ lx=2 by simp[checkN,c1]] at h;exact h)
    clear c1 c2 c3 c4 hck hfu hro
    go_wp2_with fail
    refine HP.out.mono ?_
    rintro e w3 ⟨_,rfl,gk,gX,hn⟩
    have hb3:=HBX.out.keep gk (gX _ (.inr rfl))
    have N3:=Lib.hid (hn.less (Y:=noX) (fun k hk=>hk.elim))
    obtain⟨t0,t1,t2,t3,t4,t5,t6,t7,t8,t9,t10⟩:=hb3.c11
    clear gk gX hn hb3 HP HBX v0 v1 v2 v3 v4 v5 v6 v7 v8 v9 v10
    go_wp2_with fail
    refine (HC.out _ N3.out.nb).mono ?_
    rintro e w4 ⟨rfl,n4⟩
    have N4:=Lib.hid (N3.out.keep n4)
    clear n4 N3 HC
    go_wp2_with fail
    refine N4.out.len.mono ?_
    rintro e w5 ⟨rfl,n5⟩
    have N5:=Lib.hid (N4.out.keep n5)
    clear n5 N4
    rw[HLEN.out]
    go_wp2
    go_roundw
    case rel=>exact⟨k+1,by omega,by go_num,by rw[HQ.out,HLA.out],by rw[HQ.out];exact N5.out⟩
    case measure=>simp[intOf];omega
   ·rw[c2,c3] at HP
    have HLA:=Lib.hid (show q'.last=q.last by rw[HQQ.out,c4])
    have HLEN:=Lib.hid (show q'.its.length=q.last by rw[HLE.out,HLA.out])
    have HC:=Lib.hid (fun w' (m:Nb w w')=>by have h:=hck w' m;rw[show checkN ⟨Kx,Ix,Xx,Rx,Bx,Ex,Sx,Dx,Vx,Ax⟩ lx=0 by simp[checkN,c1]] at h;exact h)
    have d1:decide (n<=q.last)=true:=decide_eq_true (by omega)
    clear c1 c2 c3 c4 hck hfu hro cr
    go_wp2_with fail
    refine HP.out.mono ?_
    rintro e w3 ⟨_,rfl,gk,gX,hn⟩
    have hb3:=HBX.out.keep gk (gX _ (.inr rfl))
    have N3:=Lib.hid (hn.less (Y:=noX) (fun k hk=>hk.elim))
    obtain⟨t0,t1,t2,t3,t4,t5,t6,t7,t8,t9,t10⟩:=hb3.c11
    clear gk gX hn hb3 HP HBX v0 v1 v2 v3 v4 v5 v6 v7 v8 v9 v10
    go_wp2_with fail
    refine (HC.out _ N3.out.nb).mono ?_
    rintro e w4 ⟨rfl,n4⟩
    have N4:=Lib.hid (N3.out.keep n4)
    clear n4 N3 HC
    go_wp2_with fail
    refine N4.out.len.mono ?_
    rintro e w5 ⟨rfl,n5⟩
    have N5:=Lib.hid (N4.out.keep n5)
    clear n5 N4
    rw[HLEN.out]
    go_wp2
    go_roundw
    case rel=>exact⟨k+1,by omega,by go_num,by rw[HQ.out,HLA.out],by rw[HQ.out];exact N5.out⟩
    case measure=>simp[intOf];omega
   ·rw[c3] at HP
    have HLA:=Lib.hid (show q'.last=q.last+1 by rw[HQQ.out,putN_last,if_pos c2])
    have HLEN:=Lib.hid (show q'.its.length=q.last+1 by rw[HLE.out,HLA.out])
    rw[c2] at HP
    have HC:=Lib.hid (fun w' (m:Nb w w')=>by have h:=hck w' m;rw[show checkN ⟨Kx,Ix,Xx,Rx,Bx,Ex,Sx,Dx,Vx,Ax⟩ lx=0 by simp[checkN,c1]] at h;exact h)
    have d1:decide (n<=q.last)=false:=decide_eq_false (by omega)
    clear c1 c2 c3 hck hfu hro cr
    go_wp2_with fail
    refine HP.out.mono ?_
    rintro e w3 ⟨_,rfl,gk,gX,hn⟩
    have hb3:=HBX.out.keep gk (gX _ (.inr rfl))
    have N3:=Lib.hid (hn.less (Y:=noX) (fun k hk=>hk.elim))
    obtain⟨t0,t1,t2,t3,t4,t5,t6,t7,t8,t9,t10⟩:=hb3.c11
    clear gk gX hn hb3 HP HBX v0 v1 v2 v3 v4 v5 v6 v7 v8 v9 v10
    go_wp2_with fail
    refine (HC.out _ N3.out.nb).mono ?_
    rintro e w4 ⟨rfl,n4⟩
    have N4:=Lib.hid (N3.out.keep n4)
    clear n4 N3 HC
    go_wp2_with fail
    refine N4.out.len.mono ?_
    rintro e w5 ⟨rfl,n5⟩
    have N5:=Lib.hid (N4.out.keep n5)
    clear n5 N4
    rw[HLEN.out]
    go_wp2
    go_roundw
    case rel=>exact⟨k+1,by omega,by go_num,by rw[HQ.out,HLA.out];go_num,by rw[HQ.out];exact N5.out⟩
    case measure=>simp[intOf];omega
  ·have hlt':decide ((k:Int) < (l1.length:Int))=false:=decide_eq_false (by omega)
   obtain rfl:k=l1.length:=by omega
   have ht:=List.take_of_length_le (Nat.le_refl l1.length)
   rw[ht] at N hpl hfu hro ⊢
   generalize (⟨n,0,[]⟩:Qu).puts l1=q at *
   have NN:=Lib.hid N.out
   clear ht N
   by_cases hz:q.last=0
   ·rw[hz]
    clear hz
    go_wp2
    go_ret
    exact⟨rfl,NN.out.nb⟩
   have dz:((q.last:Int)==0)=false:=by rw[beq_eq_false_iff_ne];omega
   have h0:=hfu.len
   have h1:=hfu.ok.room
   have hpe:q.take.putE (f14 1) [1%256]=0:=by
    unfold Qu.putE
    rw[if_neg (by rw[f14_ok];simp),if_neg (by simp only[Qu.take,List.length_drop];omega)]
   have hpn:q.take.putN (f14 1) [1%256]=q.last+1:=by
    unfold Qu.putN
    rw[if_pos hpe]
    rfl
   have HPE:=Lib.hid hpe
   have HPN:=Lib.hid hpn
   clear h0 h1 hpe hpn hfu hz
   go_wp2_with fail
   refine (NN.out.take (HK.out.below NN.out.nb)).mono ?_
   rintro e w3 ⟨_,_,_,_,rfl,_,_,_,_,hn⟩
   have N3:=Lib.hid (hn.less (Y:=noX) (fun k hk=>hk.elim))
   clear hn NN
   go_wp2_with fail
   refine (f14_any 1 (by omega) _).mono ?_
   rintro e w4 ⟨b4,rfl,hb,n4⟩
   have N4:=Lib.hid (N3.out.keep n4)
   have hp:=N4.out.put (f14 1) _ 1 _ (HK.out.below N4.out.nb) hb (fun h=>by cases h) (f14_wd _) (show q.last<=1000000 by omega)
   rw[HPE.out,HPN.out] at hp
   simp only[Hd.cs,f14] at hp ⊢
   have P4:=Lib.hid hp
   clear hp hb n4 N3
   go_wp2_with fail
   refine P4.out.mono ?_
   rintro e w5 ⟨_,rfl,_,_,hn⟩
   have N5:=Lib.hid hn.nb
   clear hn P4 N4
   go_wp2
   go_ret
   exact⟨by go_num,N5.out⟩
theorem door_met (os:Os) (args:Array Value):laidMetH Tryd.prog Rows.queueRoomRow.laid ((World.doorLaid Tryd.prog 24 os).forCall (fun _ _=>0) ⟨#[],args,[]⟩).memory :=
 laidMetH_of_parts3 (fuel:=8) (laidMet_of_run' 8 (by kernel_rfl) (by kernel_rfl)) (by kernel_rfl) (by kernel_rfl)
theorem lifted (os:Os) (started:os.Started) (H:Type) (enc:TypeId × Value->H) :
    ReturnsInHanded {} Tryd.checked os 6 .any (fun w args=>(Rows.queueRoomSpec.pre enc Tryd.prog Tryd.f6 [] false w args/\laidMetH Tryd.prog Rows.queueRoomRow.laid w)/\sizedMet enc Tryd.prog Tryd.f6 (OpenSpec.ofChange Rows.queueRoomSpec) false w args)
     (Rows.queueRoomSpec.post enc Tryd.prog Tryd.f6 false true false false):=by
 refine returnsInHanded_of_change_and (C:=Tryd.checked) (X:=fun w _=>laidMetH Tryd.prog Rows.queueRoomRow.laid w) (fun _ _ _ hh h=>h.of_heap hh) own started (by kernel_rfl) Tryd.func6
  (ChangeSpec.witness_shaped (enc:=enc) (C:=Tryd.checked) (os:=os) (X:=fun w _=>laidMetH Tryd.prog Rows.queueRoomRow.laid w) false (World.doorLaid Tryd.prog 24 os) #[.int .i64 0,.slice none 0 0] 8 rfl (World.shaped_of_RefB (by kernel_rfl) (by kernel_rfl)) (by kernel_rfl) (by kernel_rfl) (by kernel_rfl) (door_met os _)) ?_
 intro W base args ds gs before hval0 hW _ hR hL _
 have hval:∀ (j:Nat) t v,Tryd.f6.params[j]? = some t->args[j]? = some v->Value.okWide Tryd.prog W .any base t v:=hval0
 have hW':=hW
 obtain⟨p,q,hA0,hV,rfl,hfz,hnd⟩:=hW
 have hA:DataW.TrodAll enc Tryd.prog W 0 (fun _=>true) true Tryd.f6.params.toList args.toList ds p:=hA0
 rw[Tryd.params6] at hA hval
 obtain⟨v0,vs0,d0,ds0,p0,q0,hargs,rfl,rfl,h0,r0⟩:=trodAll_cons hA
 obtain⟨v1,vs1,d1,ds1,p1,q1,rfl,rfl,rfl,h1,r1⟩:=trodAll_cons r0
 obtain⟨rfl,rfl,rfl⟩:=trodAll_nil r1
 obtain rfl:args=#[v0,v1]:=by cases args;simp_all
 obtain⟨rfl,rfl⟩:=trodVars_none hV
 have k0:=h0
 have lt0:∀ x∈p0,x.block < W.heap.size:=by obtain⟨m,hm⟩:=k0;exact DataW.trod_lt m _ _ _ hm
 have k1:=h1
 have lt1:∀ x∈p1,x.block < W.heap.size:=by obtain⟨m,hm⟩:=k1;exact DataW.trod_lt m _ _ _ hm
 clear hA0
 obtain⟨a0,rfl,rfl,rfl,w0⟩:=open_int Tryd.underlying3 (hval 0 3 v0 rfl rfl) h0
 obtain⟨a1,lc1,cap1,rfl⟩:=okWide_slice Tryd.underlying56 (hval 1 56 v1 rfl rfl)
 obtain⟨fu1,hf1⟩:=h1
 have hc1:DataW.trod enc Tryd.prog W 0 (fun _=>true) true fu1 56 [.slice a1 lc1 cap1]=some (d1,p1):=hf1
 obtain⟨b1,cb1,l1,e1,hb1,n1⟩:=frames_opn hc1
 simp only[Value.slice.injEq] at e1
 obtain⟨rfl,rfl,rfl⟩:=e1
 refine (walk W (longer_of hL) a0 w0 a1 cap1 l1 hb1 n1).mono fun e W' ⟨he,bel⟩ => ?_
 subst he
 exact⟨_,rfl,_,_,_,[],_,[],hW',trodAll_mk1 (shut_bool Tryd.underlying4 _),(trodAll_cons_mk (Below.trod laidOut (by kernel_rfl) (of_decide_eq_true (by kernel_rfl)) k0 bel lt0) (trodAll_cons_mk (Below.trod laidOut (by kernel_rfl) (of_decide_eq_true (by kernel_rfl)) k1 bel lt1) trodAll_mk0)),rfl,bel.frame _,fun h=>by cases h⟩
theorem over:Rows.queueRoomRow.holds Tryd.pinned (OpenSpec.ofChange Rows.queueRoomSpec) :=
 OpenClaim.holds_of_wide 6 Tryd.f6 rfl rfl rfl rfl rfl rfl rfl ⟨rfl,rfl,rfl,rfl,rfl⟩ rfl rfl rfl rfl rfl (by kernel_rfl) Tryd.func6 (by kernel_rfl)
  (of_decide_eq_true (by kernel_rfl)) (by unfold Func.isWrapper;first | (rw[if_pos (by decide +kernel)];kernel_rfl) | (rw[if_neg (by decide +kernel)];exact⟨rfl,rfl⟩))
  (fun os started H enc _=>lifted os started H enc)
theorem plain (f : FuncId) (fn : Func) (hf : Tryd.pinned.checked.prog.funcNamed "omnibus/omnibuslaw14.QueueRoom" = some f) (hfn : Tryd.pinned.checked.prog.funcs[f]? = some fn) :
    true=Tryd.pinned.checked.prog.looks []/\∀ (j:Nat) t,fn.params[j]? = some t->Tryd.pinned.checked.prog.wantsStandIn t=false:=by
 obtain rfl : f = 6 := Option.some.inj ((show Tryd.prog.funcNamed "omnibus/omnibuslaw14.QueueRoom" = some 6 by kernel_rfl).symm.trans hf) |>.symm
 obtain rfl:fn=Tryd.f6:=(Option.some.inj (Tryd.func6.symm.trans hfn)).symm
 refine⟨by kernel_rfl,fun j t ht => ?_⟩
 rw[Tryd.params6] at ht
 have hm:t∈[3,56]:=by have:=Array.mem_of_getElem? ht;simp at this ⊢;omega
 have hall:([3,56].all fun u => !Tryd.prog.wantsStandIn u)=true:=by kernel_rfl
 exact (show Tryd.prog.wantsStandIn t=false by simpa using List.all_eq_true.1 hall t hm)
theorem proved:Rows.QueueRoomCardSaid :=
 Claim7.holds_tied_plain_at .later [] _ _ _ _ over (fun _ h=>by cases h) (by kernel_rfl) (fun _ h=>by cases h) queueRoom_row_tie rfl ⟨rfl,rfl⟩ (by kernel_rfl) rfl plain (by kernel_rfl)
#print axioms proved
end Go.Proofs.YtdedoeeekcfkpaaDoor.queueRoom
