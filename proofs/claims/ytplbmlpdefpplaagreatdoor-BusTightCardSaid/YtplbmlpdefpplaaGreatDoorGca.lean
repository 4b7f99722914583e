/- Whether frames may be looked at (layer 13, calm): what is so where it answers true, and more. Conditions: as each says. -/
import Derived.Test.YtplbmlpdefpplaaGreatDoorGl
import Derived.Test.YtplbmlpdefpplaaGreatDoorGy
import Derived.Test.YtplbmlpdefpplaaGreatDoorGpq
import Derived.Test.YtplbmlpdefpplaaGreatDoorNdB
set_option maxHeartbeats 8000000
set_option maxRecDepth 100000
namespace Go.Proofs.YtplbmlpdefpplaaGreatDoor
set_option linter.unusedVariables false
set_option linter.unusedSimpArgs false
open Go.RowKit
variable {kns:List Bool} {l line o rs:List Nat} {ns:List Nd} {T cap j k m t:Nat} {F X Y:Nat->Prop} {v:Value} {w w' w1:World}
structure z3m(kns:List Bool)(fs:List (Hd × List Nat)):Prop where
 n2:2<=kns.length
 n6:kns.length<=6
 le:fs.length<=kns.length
 each:∀j,j < fs.length->okF (fs.getD j dF).1 (fs.getD j dF).2=true/\(fs.getD j dF).2.length<=24/\((fs.getD j dF).1.K=3->kns.getD j false=true/\2<=(kns.filter id).length)
 apart:∀b a,a < b->b < fs.length->z0X (fs.getD b dF).1≠z0X (fs.getD a dF).1
theorem zkv:Tryz.prog.elem 23=37:=by kernel_rfl
theorem zkz(w:World):(sizeOf 37).run Tryz.prog w = .ok 11 w:=by kernel_rfl
theorem zfr (a:Option Addr) (len cap k:Nat) (hk:k<=cap) (w:World) :
    (Instr.sliceAt 23 (.slice a len cap) none (some (.int .i64 (k:Int))) none).run Tryz.prog w = .ok (.slice a k cap) w:=by
 have ht:Tryz.prog.underlying 23=some (.slice (Tryz.prog.elem 23)):=by kernel_rfl
 rw[run_sliceAt_slice _ _ _ _ _ _ ht,run_slice_h w _ a len cap ht .i64 (k:Int) (by omega) (by omega),zkv,zkz]
 simp only[Result.andThen,sliced,Nat.zero_mul,Nat.sub_zero,Int.toNat_natCast]
 cases a with
 | none=>simp
 | some a=>simp[Addr.add]
theorem zes(kns:List Bool)(h:k < kns.length):((kns.take (k+1)).filter id).length=((kns.take k).filter id).length+(if kns.getD k false=true then 1 else 0):=by
 have e:kns.take (k+1)=kns.take k++[kns.getD k false]:=by
  rw[List.take_add_one]
  simp[List.getD,h]
 rw[e,List.filter_append,List.length_append]
 cases kns.getD k false<;>simp
theorem zld (a a':Option Addr) (cap cap':Nat) (kns:List Bool) (fs:List (Hd × List Nat)) (w:World) (h:Bls w a cap kns) (h':z28 w a' cap' fs) (hl:zV w) :
    Calls Tryz.prog 6 #[.slice a kns.length cap,.slice a' fs.length cap'] w fun e w'=>∃r,e = .returned (.bool r)/\(r=true->z3m kns fs)/\Nb w w':=by
 have hl1:=h.len
 have hl2:=h'.len
 have hcapF:=h'.hcap
 have H:=zH h
 have HF:=zH h'
 have HL:=zH (fun w' (m:Nb w w')=>(hl.below m:zV w'))
 clear h h' hl
 have out:∀w',Nb w w'->∃r,Ending.returned (Value.bool false) = .returned (.bool r)/\(r=true->z3m kns fs)/\Nb w w':=fun w' m=>⟨false,rfl,fun e=>(by cases e),m⟩
 have OUT:=zH out
 clear out
 by_cases h2:kns.length < 2
 ·have d2:decide ((kns.length:Int) < 2)=true:=decide_eq_true (by omega)
  clear h2
  go_enter Tryz.func6,Tryz.ntmps6
  go_wp2
  go_ret
  exact OUT.out _ Nb.rfl
 have d2:decide ((kns.length:Int) < 2)=false:=decide_eq_false (by omega)
 by_cases h6:6 < kns.length
 ·have d6:decide ((6:Int) < (kns.length:Int))=true:=decide_eq_true (by omega)
  clear h2 h6
  go_enter Tryz.func6,Tryz.ntmps6
  go_wp2
  go_ret
  exact OUT.out _ Nb.rfl
 have d6:decide ((6:Int) < (kns.length:Int))=false:=decide_eq_false (by omega)
 by_cases hle:kns.length < fs.length
 ·have dle:decide (kns.length < fs.length)=true:=decide_eq_true (by omega)
  clear h2 h6 hle
  go_enter Tryz.func6,Tryz.ntmps6
  go_wp2
  go_ret
  exact OUT.out _ Nb.rfl
 have dle:decide (kns.length < fs.length)=false:=decide_eq_false (by omega)
 have HN:=zH (show 2<=kns.length/\kns.length<=6/\fs.length<=kns.length by omega)
 obtain⟨b,o,rfl,hcK⟩:=H.out.hcells (by omega)
 clear h2 h6 hle hcK
 go_enter Tryz.func6,Tryz.ntmps6
 go_wp2
 go_loopw [6,31] (fun sv ix wr=>∃k:Nat,k<=kns.length/\ix = .int .i64 k/\sv = .int .i64 (((kns.take k).filter id).length:Nat)/\Nb w wr) (fun _ ix _=>kns.length - (intOf ix).toNat)
 case atStart=>exact⟨0,Nat.zero_le _,rfl,rfl,Nb.rfl⟩
 case round =>
  obtain⟨k,hk,rfl,rfl,hN1⟩:=hrel
  have N1:=zH hN1
  clear hN1
  by_cases hlt:k < kns.length
  ·have hlt':decide ((k:Int) < (kns.length:Int))=true:=decide_eq_true (by omega)
   obtain⟨b',o',e,hc⟩:=(H.out.below N1.out).hcells (by omega)
   simp only[Option.some.injEq,Addr.mk.injEq,and_true]at e
   obtain⟨rfl,rfl⟩:=e
   have c0:=hc k hlt
   have hnx:=zes kns hlt
   have hle7:((kns.take k).filter id).length<=6:=by
    have h1:=List.length_filter_le id (kns.take k)
    have h3:=HN.out
    rw[List.length_take]at h1
    omega
   generalize ((kns.take k).filter id).length=s at *
   cases hb:kns.getD k false with
   | true =>
     rw[hb]at c0 hnx
     have P:=zH (show((kns.take (k+1)).filter id).length=s+1 by rw[hnx];rfl)
     clear hnx hb hc
     go_wp2
     go_roundw
     case rel=>exact⟨k+1,by omega,by go_num,by rw[P.out];go_num,N1.out⟩
     case measure=>simp[intOf];omega
   | false =>
     rw[hb]at c0 hnx
     have P:=zH (show((kns.take (k+1)).filter id).length=s by rw[hnx];rfl)
     clear hnx hb hc
     go_wp2
     go_roundw
     case rel=>exact⟨k+1,by omega,by go_num,by rw[P.out],N1.out⟩
     case measure=>simp[intOf];omega
  have hlt':decide ((k:Int) < (kns.length:Int))=false:=decide_eq_false (by omega)
  obtain rfl:k=kns.length:=by omega
  rw[List.take_length]
  obtain⟨kw,hkw⟩:∃kw,(kns.filter id).length=kw:=⟨_,rfl⟩
  rw[hkw]
  have HKW:=zH hkw
  clear hkw hlt hk
  go_wp2
  go_loopw [41] (fun ix wr=>∃k:Nat,k<=fs.length/\ix = .int .i64 k/\Nb w wr/\(∀j,j < k->okF (fs.getD j dF).1 (fs.getD j dF).2=true/\(fs.getD j dF).2.length<=24/\((fs.getD j dF).1.K=3->kns.getD j false=true/\2<=(kns.filter id).length))/\∀q p,p < q->q < k->z0X (fs.getD q dF).1≠z0X (fs.getD p dF).1) (fun ix _=>fs.length - (intOf ix).toNat)
  case atStart=>exact⟨0,Nat.zero_le _,rfl,N1.out,fun j hj=>(by omega),fun q p _ hq=>(by omega)⟩
  case round =>
   obtain⟨k,hk,rfl,hN,hE,hA⟩:=hrel
   have N:=zH hN
   have EA:=zH hE
   have AP:=zH hA
   clear hN hE hA
   by_cases hlt:k < fs.length
   ·have hlt':decide ((k:Int) < (fs.length:Int))=true:=decide_eq_true (by omega)
    obtain⟨⟨⟨K,I,X,R,B,E,S,D,V,A⟩,l⟩,hx⟩:∃x,fs.getD k dF=x:=⟨_,rfl⟩
    obtain⟨bf,of,rfl,-⟩:=(HF.out.below N.out).hcells (by omega)
    obtain⟨pa,pc,⟨v0,v1,v2,v3,v4,v5,v6,v7,v8,v9,v10⟩,hW,_,hb,hpn⟩:=(HF.out.below N.out).at hlt hx
    have hck:=fun w' (m:Nb wr w')=>z0J (⟨K,I,X,R,B,E,S,D,V,A⟩:Hd) pa pc l w' (hb.below m) (HL.out _ (N.out.tr m))
    simp only[Hd.cs]at hck
    have HX:=zH hx
    have HW:=zH hW
    have HBS:=zH hb
    have hLl:=hb.len
    clear hx hW hb hpn
    have QF:=zH (Blk.new wr #[.int .i64 K,.int .u32 I,.bool X,.bool R,.bool B,.bool E,.bool S,.int .u8 D,.int .u8 V,.int .u32 A,.slice pa l.length pc] 37)
    have AL:=zH (Nb.rfl.al (.cells #[.int .i64 K,.int .u32 I,.bool X,.bool R,.bool B,.bool E,.bool S,.int .u8 D,.int .u8 V,.int .u32 A,.slice pa l.length pc] 37):Nb wr _)
    cases hok:okF (⟨K,I,X,R,B,E,S,D,V,A⟩:Hd) l with
    | false =>
      simp only[zt,hok]at hck
      have HCK:=zH hck
      clear hck hok
      go_wp2_with fail
      refine(HCK.out _ (Nb.rfl.al _)).mono ?_
      rintro e w5 ⟨rfl,n5⟩
      have N5:=zH (N.out.tr ((Nb.rfl.al _).tr n5))
      clear n5 v0 v1 v2 v3 v4 v5 v6 v7 v8 v9 v10
      go_wp2
      go_ret
      exact OUT.out _ N5.out
    | true =>
      simp only[zt,hok]at hck
      have HCK:=zH hck
      have OK:=zH hok
      clear hck hok
      go_wp2_with fail
      refine(HCK.out _ (Nb.rfl.al _)).mono ?_
      rintro e w5 ⟨rfl,n5⟩
      have M5:=zH ((Nb.rfl.al _).tr n5:Nb wr w5)
      have Q5:=zH (QF.out.nb n5)
      have N5:=zH (N.out.tr M5.out)
      have HBS5:=zH (HBS.out.below M5.out)
      clear n5 v0 v1 v2 v3 v4 v5 v6 v7 v8 v9 v10 HCK QF AL
      obtain⟨c0,c1,c2,c3,c4,c5,c6,c7,c8,c9,c10⟩:=Q5.out.c11
      by_cases h24:24 < l.length
      ·have d24:decide ((24:Int) < (l.length:Int))=true:=decide_eq_true (by omega)
       clear h24
       go_wp2
       go_ret
       exact OUT.out _ N5.out
      have d24:decide ((24:Int) < (l.length:Int))=false:=decide_eq_false (by omega)
      have key3:(K=3/\(kns.getD k false=false\/kw < 2))\/(K=3->kns.getD k false=true/\2<=kw):=by
       by_cases h3:K=3
       ·cases hq:kns.getD k false with
        | false=>exact .inl ⟨h3,.inl rfl⟩
        | true =>
          by_cases hw2:kw < 2
          ·exact .inl ⟨h3,.inr hw2⟩
          ·exact .inr (fun _=>⟨rfl,by omega⟩)
       ·exact .inr (fun e=>absurd e h3)
      obtain⟨b',o',e,hc⟩:=(H.out.below N5.out).hcells (by have:=HN.out;omega)
      simp only[Option.some.injEq,Addr.mk.injEq,and_true]at e
      obtain⟨rfl,rfl⟩:=e
      have hkn:k < kns.length:=by have:=HN.out;omega
      have k0:=hc k hkn
      clear hc
      rcases key3 with ⟨rfl,hbad⟩ | h3
      ·cases hq:kns.getD k false with
       | false =>
         rw[hq]at k0
         clear hbad hq h24
         go_wp2
         go_ret
         exact OUT.out _ N5.out
       | true =>
         have dk:decide ((kw:Int) < 2)=true:=decide_eq_true (by
          rcases hbad with e | e
          ·rw[hq]at e;cases e
          ·omega)
         rw[hq]at k0
         clear hbad hq h24
         go_wp2
         go_ret
         exact OUT.out _ N5.out
      have EK:=zH (show okF (fs.getD k dF).1 (fs.getD k dF).2=true/\(fs.getD k dF).2.length<=24/\((fs.getD k dF).1.K=3->kns.getD k false=true/\2<=(kns.filter id).length) by rw[HX.out,HKW.out];exact⟨OK.out,by simp only;omega,h3⟩)
      have hcut:=zfr (some ⟨bf,of,none⟩) fs.length cap' k (by omega)
      have d3:(K==3)=true/\kns.getD k false=true/\decide ((kw:Int) < 2)=false\/(K==3)=false:=by
       by_cases e3:K=3
       ·exact .inl ⟨by rw[beq_iff_eq];exact e3,(h3 e3).1,decide_eq_false (by have:=(h3 e3).2;omega)⟩
       ·exact .inr (by rw[beq_eq_false_iff_ne];exact e3)
      clear h3 h24
      have d3':(K==3)=false\/((K==3)=true/\kns.getD k false=true/\decide ((kw:Int) < 2)=false):=d3.symm
      clear d3
      rcases d3' with q3 | ⟨q3,qk,qw⟩
      rotate_left
      ·rw[qk]at k0
       go_wp2
       go_loopw [75] (fun ix wr=>∃j:Nat,j<=k/\ix = .int .i64 j/\Nb w5 wr/\∀p,p < j->z0X (⟨K,I,X,R,B,E,S,D,V,A⟩:Hd)≠z0X (fs.getD p dF).1) (fun ix _=>k - (intOf ix).toNat)
       case atStart=>exact⟨0,Nat.zero_le _,rfl,Nb.rfl,fun p hp=>(by omega)⟩
       case round =>
        obtain⟨j,hj,rfl,hN,hA⟩:=hrel
        have NQ:=zH hN
        have AQ:=zH hA
        clear hN hA c0 c1 c2 c3 c4 c5 c6 c7 c8 c9 c10 k0
        by_cases hltj:j < k
        ·have hltj':decide ((j:Int) < (k:Int))=true:=decide_eq_true (by omega)
         obtain⟨⟨⟨K',I',X',R',B',E',S',D',V',A'⟩,l'⟩,hx'⟩:∃x,fs.getD j dF=x:=⟨_,rfl⟩
         obtain⟨pa',pc',⟨v0,v1,v2,v3,v4,v5,v6,v7,v8,v9,v10⟩,hW',_,hb',hpn'⟩:=(HF.out.below (N5.out.tr NQ.out)).at (show j < fs.length by omega) hx'
         have okj:=(EA.out j hltj).1
         rw[hx']at okj
         have hcm:=fun w' (m:Nb w5 w') (m2:Nb wr w')=>z5c (⟨K,I,X,R,B,E,S,D,V,A⟩:Hd) (⟨K',I',X',R',B',E',S',D',V',A'⟩:Hd) pa pa' pc pc' l l' w' (HBS5.out.below m) (hb'.below m2) HW.out.1 hW'.1 (HL.out _ (N5.out.tr m))
         have hcv:zjD (⟨K,I,X,R,B,E,S,D,V,A⟩:Hd) (⟨K',I',X',R',B',E',S',D',V',A'⟩:Hd) l l'=zcx (z0X (⟨K,I,X,R,B,E,S,D,V,A⟩:Hd)) (z0X (⟨K',I',X',R',B',E',S',D',V',A'⟩:Hd)):=by rw[zjD,OK.out,okj];rfl
         unfold zl5 at hcm
         rw[hcv]at hcm
         simp only[Hd.cs]at hcm
         have HX':=zH hx'
         have hLl':=hb'.len
         generalize zl6 (⟨K,I,X,R,B,E,S,D,V,A⟩:Hd) (⟨K',I',X',R',B',E',S',D',V',A'⟩:Hd) l l'=ce at hcm
         have G0:=zH (Blk.new wr #[.int .i64 K',.int .u32 I',.bool X',.bool R',.bool B',.bool E',.bool S',.int .u8 D',.int .u8 V',.int .u32 A',.slice pa' l'.length pc'] 37)
         obtain⟨c0,c1,c2,c3,c4,c5,c6,c7,c8,c9,c10⟩:=(Q5.out.nb (NQ.out.al (.cells #[.int .i64 K',.int .u32 I',.bool X',.bool R',.bool B',.bool E',.bool S',.int .u8 D',.int .u8 V',.int .u32 A',.slice pa' l'.length pc'] 37))).c11
         by_cases hke:z0X (⟨K,I,X,R,B,E,S,D,V,A⟩:Hd)=z0X (⟨K',I',X',R',B',E',S',D',V',A'⟩:Hd)
         ·rw[show zcx (z0X (⟨K,I,X,R,B,E,S,D,V,A⟩:Hd)) (z0X (⟨K',I',X',R',B',E',S',D',V',A'⟩:Hd))=0 by unfold zcx;rw[hke,if_neg (by omega),if_neg (by omega)]]at hcm
          have HCM:=zH hcm
          clear hcm hcv hW' hb' hpn' hx' okj hke
          go_wp2_with fail
          refine(HCM.out _ (NQ.out.al _) (Nb.rfl.al _)).mono ?_
          rintro e w6 ⟨rfl,n6⟩
          have N6:=zH (N5.out.tr ((NQ.out.al _).tr n6))
          clear n6 v0 v1 v2 v3 v4 v5 v6 v7 v8 v9 v10 c0 c1 c2 c3 c4 c5 c6 c7 c8 c9 c10
          go_wp2
          go_ret
          exact OUT.out _ N6.out
         ·obtain⟨cv,hcvv,hne⟩:∃cv:Int,zcx (z0X (⟨K,I,X,R,B,E,S,D,V,A⟩:Hd)) (z0X (⟨K',I',X',R',B',E',S',D',V',A'⟩:Hd))=cv/\cv≠0:=by
           refine⟨_,rfl,?_⟩
           unfold zcx
           split
           ·omega
           ·rw[if_pos (by omega)];omega
          rw[hcvv]at hcm
          have dcv:(cv==0)=false:=by rw[beq_eq_false_iff_ne];exact hne
          have HCM:=zH hcm
          have KE:=zH hke
          clear hcm hcv hcvv hne hW' hb' hpn' hx' okj hke
          go_wp2_with fail
          refine(HCM.out _ (NQ.out.al _) (Nb.rfl.al _)).mono ?_
          rintro e w6 ⟨rfl,n6⟩
          have N6:=zH ((NQ.out.al _).tr n6)
          clear n6 v0 v1 v2 v3 v4 v5 v6 v7 v8 v9 v10 c0 c1 c2 c3 c4 c5 c6 c7 c8 c9 c10
          go_wp2
          go_roundw
          case rel=>exact⟨j+1,by omega,by go_num,N6.out,fun p hp=>by
           by_cases e:p < j
           ·exact AQ.out p e
           ·obtain rfl:p=j:=by omega
            rw[HX'.out]
            exact KE.out⟩
          case measure=>simp[intOf];omega
        ·have hltj':decide ((j:Int) < (k:Int))=false:=decide_eq_false (by omega)
         obtain rfl:j=k:=by omega
         go_wp2
         go_roundw
         case rel=>exact⟨j+1,by omega,by go_num,N5.out.tr NQ.out,fun q hq=>by
          by_cases e:q < j
          ·exact EA.out q e
          ·obtain rfl:q=j:=by omega
           exact EK.out,fun q p hp hq=>by
          by_cases e:q < j
          ·exact AP.out q p hp e
          ·obtain rfl:q=j:=by omega
           rw[HX.out]
           exact AQ.out p hp⟩
         case measure=>simp[intOf];omega
      ·go_wp2
       go_loopw [75] (fun ix wr=>∃j:Nat,j<=k/\ix = .int .i64 j/\Nb w5 wr/\∀p,p < j->z0X (⟨K,I,X,R,B,E,S,D,V,A⟩:Hd)≠z0X (fs.getD p dF).1) (fun ix _=>k - (intOf ix).toNat)
       case atStart=>exact⟨0,Nat.zero_le _,rfl,Nb.rfl,fun p hp=>(by omega)⟩
       case round =>
        obtain⟨j,hj,rfl,hN,hA⟩:=hrel
        have NQ:=zH hN
        have AQ:=zH hA
        clear hN hA c0 c1 c2 c3 c4 c5 c6 c7 c8 c9 c10 k0
        by_cases hltj:j < k
        ·have hltj':decide ((j:Int) < (k:Int))=true:=decide_eq_true (by omega)
         obtain⟨⟨⟨K',I',X',R',B',E',S',D',V',A'⟩,l'⟩,hx'⟩:∃x,fs.getD j dF=x:=⟨_,rfl⟩
         obtain⟨pa',pc',⟨v0,v1,v2,v3,v4,v5,v6,v7,v8,v9,v10⟩,hW',_,hb',hpn'⟩:=(HF.out.below (N5.out.tr NQ.out)).at (show j < fs.length by omega) hx'
         have okj:=(EA.out j hltj).1
         rw[hx']at okj
         have hcm:=fun w' (m:Nb w5 w') (m2:Nb wr w')=>z5c (⟨K,I,X,R,B,E,S,D,V,A⟩:Hd) (⟨K',I',X',R',B',E',S',D',V',A'⟩:Hd) pa pa' pc pc' l l' w' (HBS5.out.below m) (hb'.below m2) HW.out.1 hW'.1 (HL.out _ (N5.out.tr m))
         have hcv:zjD (⟨K,I,X,R,B,E,S,D,V,A⟩:Hd) (⟨K',I',X',R',B',E',S',D',V',A'⟩:Hd) l l'=zcx (z0X (⟨K,I,X,R,B,E,S,D,V,A⟩:Hd)) (z0X (⟨K',I',X',R',B',E',S',D',V',A'⟩:Hd)):=by rw[zjD,OK.out,okj];rfl
         unfold zl5 at hcm
         rw[hcv]at hcm
         simp only[Hd.cs]at hcm
         have HX':=zH hx'
         have hLl':=hb'.len
         generalize zl6 (⟨K,I,X,R,B,E,S,D,V,A⟩:Hd) (⟨K',I',X',R',B',E',S',D',V',A'⟩:Hd) l l'=ce at hcm
         have G0:=zH (Blk.new wr #[.int .i64 K',.int .u32 I',.bool X',.bool R',.bool B',.bool E',.bool S',.int .u8 D',.int .u8 V',.int .u32 A',.slice pa' l'.length pc'] 37)
         obtain⟨c0,c1,c2,c3,c4,c5,c6,c7,c8,c9,c10⟩:=(Q5.out.nb (NQ.out.al (.cells #[.int .i64 K',.int .u32 I',.bool X',.bool R',.bool B',.bool E',.bool S',.int .u8 D',.int .u8 V',.int .u32 A',.slice pa' l'.length pc'] 37))).c11
         by_cases hke:z0X (⟨K,I,X,R,B,E,S,D,V,A⟩:Hd)=z0X (⟨K',I',X',R',B',E',S',D',V',A'⟩:Hd)
         ·rw[show zcx (z0X (⟨K,I,X,R,B,E,S,D,V,A⟩:Hd)) (z0X (⟨K',I',X',R',B',E',S',D',V',A'⟩:Hd))=0 by unfold zcx;rw[hke,if_neg (by omega),if_neg (by omega)]]at hcm
          have HCM:=zH hcm
          clear hcm hcv hW' hb' hpn' hx' okj hke
          go_wp2_with fail
          refine(HCM.out _ (NQ.out.al _) (Nb.rfl.al _)).mono ?_
          rintro e w6 ⟨rfl,n6⟩
          have N6:=zH (N5.out.tr ((NQ.out.al _).tr n6))
          clear n6 v0 v1 v2 v3 v4 v5 v6 v7 v8 v9 v10 c0 c1 c2 c3 c4 c5 c6 c7 c8 c9 c10
          go_wp2
          go_ret
          exact OUT.out _ N6.out
         ·obtain⟨cv,hcvv,hne⟩:∃cv:Int,zcx (z0X (⟨K,I,X,R,B,E,S,D,V,A⟩:Hd)) (z0X (⟨K',I',X',R',B',E',S',D',V',A'⟩:Hd))=cv/\cv≠0:=by
           refine⟨_,rfl,?_⟩
           unfold zcx
           split
           ·omega
           ·rw[if_pos (by omega)];omega
          rw[hcvv]at hcm
          have dcv:(cv==0)=false:=by rw[beq_eq_false_iff_ne];exact hne
          have HCM:=zH hcm
          have KE:=zH hke
          clear hcm hcv hcvv hne hW' hb' hpn' hx' okj hke
          go_wp2_with fail
          refine(HCM.out _ (NQ.out.al _) (Nb.rfl.al _)).mono ?_
          rintro e w6 ⟨rfl,n6⟩
          have N6:=zH ((NQ.out.al _).tr n6)
          clear n6 v0 v1 v2 v3 v4 v5 v6 v7 v8 v9 v10 c0 c1 c2 c3 c4 c5 c6 c7 c8 c9 c10
          go_wp2
          go_roundw
          case rel=>exact⟨j+1,by omega,by go_num,N6.out,fun p hp=>by
           by_cases e:p < j
           ·exact AQ.out p e
           ·obtain rfl:p=j:=by omega
            rw[HX'.out]
            exact KE.out⟩
          case measure=>simp[intOf];omega
        ·have hltj':decide ((j:Int) < (k:Int))=false:=decide_eq_false (by omega)
         obtain rfl:j=k:=by omega
         go_wp2
         go_roundw
         case rel=>exact⟨j+1,by omega,by go_num,N5.out.tr NQ.out,fun q hq=>by
          by_cases e:q < j
          ·exact EA.out q e
          ·obtain rfl:q=j:=by omega
           exact EK.out,fun q p hp hq=>by
          by_cases e:q < j
          ·exact AP.out q p hp e
          ·obtain rfl:q=j:=by omega
           rw[HX.out]
           exact AQ.out p hp⟩
         case measure=>simp[intOf];omega
   ·have hlt':decide ((k:Int) < (fs.length:Int))=false:=decide_eq_false (by omega)
    obtain rfl:k=fs.length:=by omega
    go_wp2
    go_ret
    exact⟨true,rfl,fun _=>⟨HN.out.1,HN.out.2.1,HN.out.2.2,EA.out,AP.out⟩,N.out⟩
theorem zkW(n:Nd)(f:Hd)(l:List Nat):(n.load f l).x=n.x:=by
 unfold Nd.load
 split<;>rfl
theorem zaf(ns:List Nd)(i:Nat)(m:Nd)(hj:j < ns.length):(ns.set i m).getD j dN=if i=j then m else ns.getD j dN:=by
 by_cases hij:i=j
 ·subst hij
  rw[if_pos rfl]
  simp[List.getD,hj]
 ·rw[if_neg hij]
  simp[List.getD,List.getElem?_set_ne hij]
theorem za5.next(h:za5 T ns)(t:Nat):za5 (T+1) (z2I ns t):=fun j hj=>by
 rw[z30]at hj
 rw[z5h _ _ hj]
 have:=zaR (ns.getD j dN) (z5z (z3e ns) t j)
 have:=h j hj
 omega
theorem za5.up{U:Nat}(h:za5 T ns)(hu:T<=U):za5 U ns:=fun j hj=>Nat.le_trans (h j hj) hu
theorem zik(kns:List Bool):z26 (kns.map Nd.new)/\za5 0 (kns.map Nd.new):=by
 have e:∀j,j < (kns.map Nd.new).length->(kns.map Nd.new).getD j dN=Nd.new (kns.getD j false):=fun j hj=>by
  rw[List.length_map]at hj
  simp[List.getD,hj]
 exact⟨fun j hj=>by rw[e j hj];exact z6n _,fun j hj=>by rw[e j hj];exact Nat.le_refl _⟩
theorem zer(fs:List (Hd × List Nat))(j:Nat):fsD fs j=fs.getD j dF:=rfl
def FrW(fs:List (Hd × List Nat)):Prop:=∀j,j < fs.length->WdX (fs.getD j dF).1/\∀x∈(fs.getD j dF).2,x < 256
theorem z28.wd{a:Option Addr}{fs:List (Hd × List Nat)}(h:z28 w a cap fs):FrW fs:=fun j hj=>by
 obtain⟨_,_,_,hc⟩:=h.hcells (by omega)
 obtain⟨_,_,_,h2,_,h4,_⟩:=hc j hj
 exact⟨h2,h4.hbyte⟩
theorem zal{fs:List (Hd × List Nat)}(C:z3m kns fs)(W:FrW fs)(j:Nat)(hj:j < fs.length):Fr (fsD fs j).1 (fsD fs j).2:=⟨(C.each j hj).1,(W j hj).1,(W j hj).2⟩
theorem zjX{fs:List (Hd × List Nat)}(C:z3m kns fs)(W:FrW fs):z6e kns fs (rk (z0E fs)) :=
 ziG C.le C.n2 (zal C W) (fun a b hab hb e=>C.apart b a hab hb e.symm) (fun j hj h3=>((C.each j hj).2.2 h3).2)
def z1A(kns:List Bool)(fs:List (Hd × List Nat)):Nat->List Nd
 | 0=>kns.map Nd.new
 | k+1=>(z1A kns fs k).set k (((z1A kns fs k).getD k dN).load (fs.getD k dF).1 (fs.getD k dF).2)
theorem z3W(kns:List Bool)(fs:List (Hd × List Nat))(k:Nat):(z1A kns fs k).length=kns.length:=by
 induction k with
 | zero=>simp[z1A]
 | succ k ih=>rw[z1A,List.length_set,ih]
theorem z7Y{fs:List (Hd × List Nat)}(C:z3m kns fs)(k:Nat)(hk:k<=fs.length):∀j,j < kns.length->(z1A kns fs k).getD j dN=if j < k then { Nd.new (kns.getD j false)with has:=true,f:=(fs.getD j dF).1,l:=(fs.getD j dF).2 } else Nd.new (kns.getD j false):=by
 induction k with
 | zero =>
   intro j hj
   rw[if_neg (by omega),z1A]
   simp[List.getD,hj]
 | succ k ih =>
   intro j hj
   have hle:=C.le
   rw[z1A,zaf _ _ _ (by rw[z3W];exact hj)]
   by_cases hjk:k=j
   ·subst hjk
    rw[if_pos rfl,if_pos (by omega),ih (by omega) k hj,if_neg (by omega)]
    obtain⟨c1,_,c3⟩:=C.each k (by omega)
    have e:(Nd.new (kns.getD k false)).loadE (fs.getD k dF).1 (fs.getD k dF).2=0:=by
     unfold Nd.loadE
     rw[c1,if_neg (by simp),if_neg (by
      rintro⟨h3,hk⟩
      have:=(c3 h3).1
      rw[show(Nd.new (kns.getD k false)).kn=kns.getD k false from rfl,this]at hk
      cases hk),if_neg (by show ¬false=true;simp)]
    unfold Nd.load
    rw[if_pos e]
   ·rw[if_neg hjk,ih (by omega) j hj]
    by_cases hj2:j < k
    ·rw[if_pos hj2,if_pos (by omega)]
    ·rw[if_neg hj2,if_neg (by omega)]
theorem zje{fs:List (Hd × List Nat)}(C:z3m kns fs)(hk:k < fs.length):((z1A kns fs k).getD k dN).loadE (fs.getD k dF).1 (fs.getD k dF).2=0:=by
 have hle:=C.le
 rw[z7Y C k (by omega) k (by omega),if_neg (by omega)]
 obtain⟨c1,_,c3⟩:=C.each k hk
 unfold Nd.loadE
 rw[c1,if_neg (by simp),if_neg (by
  rintro⟨h3,hk⟩
  have:=(c3 h3).1
  rw[show(Nd.new (kns.getD k false)).kn=kns.getD k false from rfl,this]at hk
  cases hk),if_neg (by show ¬false=true;simp)]
theorem zaS{fs:List (Hd × List Nat)}(C:z3m kns fs)(W:FrW fs)(k:Nat)(hk:k<=fs.length):z26 (z1A kns fs k)/\za5 0 (z1A kns fs k):=by
 induction k with
 | zero=>exact zik kns
 | succ k ih =>
   obtain⟨i1,i2⟩:=ih (by omega)
   have hle:=C.le
   have hlen:=z3W kns fs k
   constructor
   ·intro j hj
    rw[z1A,List.length_set]at hj
    rw[z1A,zaf _ _ _ hj]
    split
    ·rename_i e
     subst e
     obtain⟨w1,w2⟩:=W k (by omega)
     exact zdc (i1 k hj) w1 w2 (fun hp=>((i1 k hj).p2 hp).1)
    ·exact i1 j hj
   ·intro j hj
    rw[z1A,List.length_set]at hj
    rw[z1A,zaf _ _ _ hj]
    split
    ·rename_i e
     subst e
     rw[zkW]
     exact i2 k hj
    ·exact i2 j hj
theorem zcg{fs:List (Hd × List Nat)}(C:z3m kns fs):zdY kns fs 0 (z1A kns fs fs.length):=by
 have hlen:=z3W kns fs fs.length
 have key:∀j (h:j < (z1A kns fs fs.length).length),(z1A kns fs fs.length)[j]=if j < fs.length then { Nd.new (kns.getD j false)with has:=true,f:=(fs.getD j dF).1,l:=(fs.getD j dF).2 } else Nd.new (kns.getD j false):=fun j h=>by
  rw[<- z7Y C fs.length (Nat.le_refl _) j (by omega)]
  simp[List.getD,h]
 refine⟨hlen,fun j h => ?_,fun j h hj => ?_,fun j h hj => ?_⟩
 ·rw[key j h]
  split<;>exact⟨rfl,rfl,rfl,rfl⟩
 ·rw[key j h,if_pos hj]
  exact⟨rfl,rfl,rfl⟩
 ·rw[key j h,if_neg (by omega)]
  rfl
def z21(fs:List (Hd × List Nat)):Nat->Nat
 | 0=>40
 | k+1=>z21 fs k+((zn (fs.getD k dF).1 (fs.getD k dF).2).length+13)
theorem zez{f:Hd}(h:Fr f l)(hl:l.length<=24):(zn f l).length<=600:=by
 have hok:=h.ok
 unfold zn
 rcases z3Y hok with hk | hk | hk
 ·have ho:okC f l=true:=by simp[okC,hk,hok]
  obtain⟨P,hP,_,_,_,g,_⟩:=z5u ho
  rw[if_neg (by omega),if_neg (by omega)]
  omega
 ·have ho:okD f l=true:=by simp[okD,hk,hok]
  have h1:=z5L ho
  have h3:=(zr (bdC f l)).1
  have h4:=zfs f l
  have h5:(if 16 < l.length then 32 else 27)<=32:=by split<;>omega
  rw[if_pos hk]
  omega
 ·have ho:okX f l=true:=by simp[okX,hk,hok]
  have h1:=z7L ho
  have h2:=(zr (zi f.I.toNat)).1
  rw[zU]at h2
  have h4:=zhT f l
  have h5:szF 8 false (bxC f l).length<=(bxC f l).length+(bxC f l).length / 8+1:=by
   unfold szF
   split
   ·omega
   ·simp only[Bool.toNat_false]
    omega
  rw[if_neg (by omega),if_pos hk]
  omega
theorem zd1{fs:List (Hd × List Nat)}(C:z3m kns fs)(W:FrW fs)(k:Nat)(hk:k<=fs.length):z21 fs k<=40+k*613:=by
 induction k with
 | zero=>exact Nat.le_refl _
 | succ k ih =>
   have:=ih (by omega)
   have:=zez (zal C W k (by omega)) (C.each k (by omega)).2.1
   rw[zer]at this
   rw[z21]
   omega
def z5o(es:List Ev)(j:Nat):List (Nat × Ev):=((List.range j).filter fun i=>zfO (es.getD i z02)).map fun i=>(i,es.getD i z02)
theorem zee(es:List Ev):z5o es es.length=z5J es:=rfl
theorem zbW(es:List Ev)(j:Nat):z5o es (j+1)=z5o es j++(if zfO (es.getD j z02)=true then [(j,es.getD j z02)]else []):=by
 unfold z5o
 rw[List.range_succ,List.filter_append,List.map_append]
 congr 1
 by_cases h:zfO (es.getD j z02)=true
 ·rw[if_pos h,List.filter_cons,if_pos h];rfl
 ·rw[if_neg h,List.filter_cons,if_neg h];rfl
theorem zen(fs:List (Hd × List Nat))(o:List Nat)(k:Nat):z0Z fs o k=11+((List.range k).map fun q=>frL fs o q+13).sum:=by
 induction k with
 | zero=>rfl
 | succ k ih=>rw[z0Z,ih,List.range_succ,List.map_append,List.sum_append];simp;omega
theorem zeb(fs:List (Hd × List Nat))(k:Nat):z21 fs k=40+((List.range k).map fun q=>(zn (fsD fs q).1 (fsD fs q).2).length+13).sum:=by
 induction k with
 | zero=>rfl
 | succ k ih=>rw[z21,ih,List.range_succ,List.map_append,List.sum_append];simp[zer];omega
theorem z9K(fs:List (Hd × List Nat)):z0Z fs (rk (z0E fs)) fs.length+29=z21 fs fs.length:=by
 rw[zen,zeb]
 have hkl:(z0E fs).length=fs.length:=by simp[z0E]
 have hp:=z70 (z0E fs)
 rw[hkl]at hp
 have e1:(List.range fs.length).map (fun q=>frL fs (rk (z0E fs)) q+13)=(rk (z0E fs)).map fun i=>(zn (fsD fs i).1 (fsD fs i).2).length+13:=by
  apply List.ext_getElem
  ·simp[zeZ,hkl]
  ·intro i h1 h2
   simp only[List.length_map,List.length_range]at h1
   have hl:i < (rk (z0E fs)).length:=by rw[zeZ,hkl];exact h1
   simp[frL,frK,List.getD,hl]
 have e2:((rk (z0E fs)).map fun i=>(zn (fsD fs i).1 (fsD fs i).2).length+13).sum=((List.range fs.length).map fun i=>(zn (fsD fs i).1 (fsD fs i).2).length+13).sum:=(hp.map _).sum_nat
 rw[e1,e2]
 omega
def z9L(kns:List Bool)(fs:List (Hd × List Nat))(o:List Nat)(k:Nat):List (Nat × Ev):=z4C kns fs o k++[(o.getD k 0,z4u fs o k)]
theorem z6y(kns:List Bool)(fs:List (Hd × List Nat))(o:List Nat)(k:Nat):z3N kns fs o (k+1)=z3N kns fs o k++z9L kns fs o k:=rfl
def zeU(kns:List Bool)(fs:List (Hd × List Nat))(o:List Nat):Nat->Nat
 | 0=>0
 | k+1=>zeU kns fs o k+(z9L kns fs o k).length
theorem z3H(kns:List Bool)(fs:List (Hd × List Nat))(o:List Nat)(k:Nat):(z3N kns fs o k).length=zeU kns fs o k:=by
 induction k with
 | zero=>rfl
 | succ k ih=>rw[z6y,List.length_append,ih];rfl
theorem zgR(kns:List Bool)(fs:List (Hd × List Nat))(o:List Nat){n:Nat}(hk:k < n)(hm:m < (z9L kns fs o k).length):(z3N kns fs o n)[zeU kns fs o k+m]? = (z9L kns fs o k)[m]? := by
 induction n with
 | zero=>omega
 | succ n ih =>
   rw[z6y]
   by_cases hkn:k=n
   ·subst hkn
    rw[List.getElem?_append_right (by rw[z3H];omega),z3H,Nat.add_sub_cancel_left]
   ·have hl:=z3H kns fs o (k+1)
    have hlt:zeU kns fs o k+m < (z3N kns fs o n).length:=by
     rw[z3H]
     have key:∀p,k < p->zeU kns fs o k+(z9L kns fs o k).length<=zeU kns fs o p:=by
      intro p
      induction p with
      | zero=>omega
      | succ p ihp =>
        intro hp
        by_cases e:k=p
        ·subst e
         exact Nat.le_refl _
        ·have:=ihp (by omega)
         rw[zeU]
         omega
     have:=key n (by omega)
     omega
    rw[List.getElem?_append_left hlt]
    exact ih (by omega)
def zdB(kns:List Bool)(fs:List (Hd × List Nat))(o:List Nat)(k i:Nat):Bool:=(i==o.getD k 0)||kns.getD i false || !decide ((frK fs o k).1.K=3)
def zfz(kns:List Bool)(fs:List (Hd × List Nat))(o:List Nat)(k j:Nat):Nat:=((List.range j).filter (zdB kns fs o k)).length
theorem zjL(kns:List Bool)(fs:List (Hd × List Nat))(o:List Nat)(k j:Nat):zfz kns fs o k (j+1)=zfz kns fs o k j+(if zdB kns fs o k j=true then 1 else 0):=by
 unfold zfz
 rw[List.range_succ,List.filter_append,List.length_append]
 by_cases h:zdB kns fs o k j=true
 ·rw[if_pos h,List.filter_cons,if_pos h];rfl
 ·rw[if_neg h,List.filter_cons,if_neg h];rfl
theorem zeu(l:List Nat)(p q:Nat->Bool)(h:∀x∈l,(p x&&q x)=false):(l.filter fun x=>p x||q x).length=(l.filter p).length+(l.filter q).length:=by
 induction l with
 | nil=>rfl
 | cons x l ih =>
   have ih':=ih (fun y hy=>h y (by simp[hy]))
   have hx:=h x (by simp)
   simp only[List.filter_cons]
   cases hp:p x<;>cases hq:q x
   ·simp[ih']
   ·simp[ih'];omega
   ·simp[ih'];omega
   ·rw[hp,hq]at hx
    cases hx
theorem zla{fs:List (Hd × List Nat)}(C:z6e kns fs o)(hk:k < fs.length):zfz kns fs o k kns.length=(z9L kns fs o k).length:=by
 have hw:=C.olt k hk
 have hle:=C.le
 have e:zdB kns fs o k=fun i=>(i==o.getD k 0)||z4D kns fs o k i:=by
  funext i
  unfold zdB z4D
  cases (i==o.getD k 0)<;>cases kns.getD i false<;>cases decide ((frK fs o k).1.K=3)<;>rfl
 unfold zfz z9L z4C
 rw[e,zeu _ _ _ (fun x _=>by unfold z4D;cases (x==o.getD k 0)<;>rfl),z8b (by omega),List.length_append,List.length_map]
 simp
 omega
theorem zim{fs:List (Hd × List Nat)}(C:z6e kns fs o)(hk:k < fs.length):∀p∈z9L kns fs o k,p.2.f=(frK fs o k).1/\p.2.l=(frK fs o k).2/\p.2.e=0/\p.1 < kns.length/\((p.2.k=1/\p.1=o.getD k 0)\/(p.2.k=2/\p.1≠o.getD k 0)):=by
 intro p hp
 have hw:=C.olt k hk
 have hle:=C.le
 rcases List.mem_append.1 hp with hp | hp
 ·unfold z4C at hp
  obtain⟨j,hj,rfl⟩:=List.mem_map.1 hp
  obtain⟨h1,h2⟩:=List.mem_filter.1 hj
  refine⟨rfl,rfl,rfl,List.mem_range.1 h1,.inr ⟨rfl,?_⟩⟩
  unfold z4D at h2
  rw[Bool.and_eq_true]at h2
  simpa using h2.1
 ·obtain rfl:=List.mem_singleton.1 hp
  exact⟨rfl,rfl,rfl,by show o.getD k 0 < _;omega,.inl ⟨rfl,rfl⟩⟩
theorem zfv{fs:List (Hd × List Nat)}(k:Nat):((z9L kns fs o k).map (·.1)).Nodup:=by
 unfold z9L z4C
 rw[List.map_append,List.map_map,List.nodup_append]
 refine⟨?_,by simp,fun a ha b hb => ?_⟩
 ·have e:((fun x:Nat × Ev=>x.1)∘fun j=>(j,ziE fs o k))=id:=rfl
  rw[e,List.map_id]
  exact List.nodup_range.filter _
 ·obtain⟨j,hj,rfl⟩:=List.mem_map.1 ha
  obtain⟨_,h2⟩:=List.mem_filter.1 hj
  simp only[List.map_cons,List.map_nil,List.mem_singleton]at hb
  subst hb
  unfold z4D at h2
  rw[Bool.and_eq_true]at h2
  have:=h2.1
  simpa using this
def tlC(i:Nat)(e:Ev)(u:Value):List Value := .int .i64 (i:Nat)::evC e u
theorem z6Z(i:Nat)(e:Ev)(u:Value):(tlC i e u).length=14:=rfl
abbrev dT:Nat × Ev × Value:=(0,z02,.slice none 0 0)
def z3F(l:List (Nat × Ev × Value)):List Value:=l.flatMap fun p=>tlC p.1 p.2.1 p.2.2
theorem zbX(l m:List (Nat × Ev × Value)):z3F (l++m)=z3F l++z3F m:=by simp[z3F]
theorem zcd(l:List (Nat × Ev × Value)):∀j,j < l.length->∀i,i < 14->(z3F l)[j*14+i]? = (tlC (l.getD j dT).1 (l.getD j dT).2.1 (l.getD j dT).2.2)[i]? := by
 induction l with
 | nil=>intro j h;simp at h
 | cons p l ih =>
   intro j h i hi
   have e:z3F (p::l)=tlC p.1 p.2.1 p.2.2++z3F l:=rfl
   rw[e]
   cases j with
   | zero =>
     rw[List.getElem?_append_left (by rw[z6Z];omega),Nat.zero_mul,Nat.zero_add]
     rfl
   | succ j =>
     rw[List.getElem?_append_right (by rw[z6Z];omega),z6Z,show(j+1)*14+i - 14=j*14+i by omega]
     exact ih j (by simpa using h) i hi
theorem zgS:(Tryz.prog.info? 42).map (fun i=>(i.zero,i.size,i.bytes))=some (some (.agg #[.int .i64 0,.int .i64 0,.int .i64 0,.int .i64 0,.int .u32 0,.bool false,.bool false,.bool false,.bool false,.bool false,.int .u8 0,.int .u8 0,.int .u32 0,.slice none 0 0]),14,72):=by kernel_rfl
def z9d(w:World)(v:Value)(l:List (Nat × Ev × Value)):Prop:=w.ownsRow 0 42 14 v l.length (z3F l)
theorem z9d.nil(w:World):z9d w (.slice none 0 0) []:=World.ownsRow_nil _ _ _ _
theorem z9d.keep{l:List (Nat × Ev × Value)}(h:z9d w v l)(hk:Kp F w w')(hn:∀g,v.ownBlock=some g->¬F g):z9d w' v l:=by
 obtain⟨h1,h2⟩:=h
 refine⟨h1,?_⟩
 rcases h2 with h2 | ⟨g,cap,cur,rfl,hb,hg,r⟩
 ·exact .inl h2
 ·exact .inr ⟨g,cap,cur,rfl,hb,(hk.block g (Array.getElem?_eq_some_iff.1 hg).1 (hn g rfl)).trans hg,r⟩
theorem z9d.nb{l:List (Nat × Ev × Value)}(h:z9d w v l)(hb:Nb w w'):z9d w' v l:=h.keep (F:=fun _=>False) (Kp.ofNb hb) (by simp)
theorem z9d.at{l:List (Nat × Ev × Value)}(h:z9d w v l):∃a c,v = .slice a l.length c/\∀j,j < l.length->∃g,a=some ⟨g,0,none⟩/\v.ownBlock=some g/\g < w.heap.size/\∀i u,(tlC (l.getD j dT).1 (l.getD j dT).2.1 (l.getD j dT).2.2)[i]? = some u->w.cell? ⟨g,j*14+i,none⟩=some u:=by
 rcases h.2 with ⟨rfl,h2⟩ | ⟨g,cap,cur,rfl,hb0,hg,hn,hc,hs,ht⟩
 ·exact⟨none,0,by rw[h2],fun j hj=>by omega⟩
 ·refine⟨_,cap,rfl,fun j hj=>⟨g,rfl,rfl,(Array.getElem?_eq_some_iff.1 hg).1,fun i u hu => ?_⟩⟩
  have hi:i < 14:=by
   have:=(List.getElem?_eq_some_iff.1 hu).1
   rw[z6Z]at this
   exact this
  have e:=zcd l j hj i hi
  rw[hu,<- ht,List.getElem?_take_of_lt (by omega),Array.getElem?_toList]at e
  simp only[World.cell?,hg]
  exact e
theorem za2 (w:World) {ops:Array Oper} {rest:List Oper} {o:Oper} {a:Act} {Q:Exit->Act->World->Prop}
    (hg:o.guard=none) (s x:Operand) (hop:o.op=Op.call { callee:=Callee.builtin Builtin.append,args:=#[s,x],argTypes:=#[27,27] })
    (v:Value) (l:List (Nat × Ev × Value)) (hs:a.eval s=v) (hown:z9d w v l)
    (b:Nat) (i:Nat) (e:Ev) (pa:Option Addr) (pn pc:Nat) (hx:a.eval x = .slice (some ⟨b,0,none⟩) 1 1) (hc:∀j u,(tlC i e (.slice pa pn pc))[j]? = some u->w.cell? ⟨b,j,none⟩=some u)
    (b1:l.length+1<=1000000)
    (hK:∀v' w',z9d w' v' (l++[(i,e,.slice pa pn pc)])->Kp (fun k=>v.ownBlock=some k) w w'->(∀g,v'.ownBlock=some g->v.ownBlock=some g\/w.heap.size<=g)->wpList Tryz.prog ops Q rest (a.put o.dst v') w') :
    wpList Tryz.prog ops Q (o::rest) a w:=by
 obtain⟨i0,hi,hz0,hz1,hz2⟩:=info_parts zgS
 refine z39 w hg s x 27 hop 42 i0 (.agg #[.int .i64 0,.int .i64 0,.int .i64 0,.int .i64 0,.int .u32 0,.bool false,.bool false,.bool false,.bool false,.bool false,.int .u8 0,.int .u8 0,.int .u32 0,.slice none 0 0]) 14 72 Tryz.underlying27 hi hz0 hz1 hz2 rfl (by decide) v l.length _ hs hown (some ⟨b,0,none⟩) 1 1 (tlC i e (.slice pa pn pc)) hx rfl (fun h=>by cases h) ?_ ?_ (by unfold maxLen;omega) (by omega) ?_
 ·intro ad had j u hu
  obtain rfl:=Option.some.inj had
  rw[Addr.add_lit,Nat.zero_add]
  exact hc j u hu
 ·intro u hu
  obtain⟨k,r,⟨K,I,X,R,B,E,S,D,V,A⟩,ll⟩:=e
  simp[tlC,evC,Hd.cs]at hu
  rcases hu with rfl | rfl | rfl | rfl | rfl | rfl | rfl | rfl | rfl | rfl | rfl | rfl | rfl | rfl<;>rfl
 ·intro v' w' ho hgr hbl
  exact hK v' w' (by simpa [z9d,zbX,z3F]using ho) (Kp.grown hgr (fun k hk=>hk)) hbl
def z4A(w:World)(l:List (Nat × Ev × Value))(X:Nat->Prop):Prop:=∀p∈l,∃a c,p.2.2 = .slice a p.2.1.l.length c/\Bs w a c p.2.1.l/\∀b o t,a=some ⟨b,o,t⟩->0 < p.2.1.l.length->X b
theorem z4A.keep{l:List (Nat × Ev × Value)}(h:z4A w l X)(hk:Kp F w w')(hn:∀k,X k->¬F k):z4A w' l X:=fun p hp=>by
 obtain⟨a,c,h1,h2,h3⟩:=h p hp
 exact⟨a,c,h1,h2.keepKp0 hk (fun b o t e hl=>hn b (h3 b o t e hl)),h3⟩
theorem z4A.up{l:List (Nat × Ev × Value)}(h:z4A w l X)(hxy:∀k,X k->Y k):z4A w l Y:=fun p hp=>by
 obtain⟨a,c,h1,h2,h3⟩:=h p hp
 exact⟨a,c,h1,h2,fun b o t e hl=>hxy b (h3 b o t e hl)⟩
theorem z4A.snoc{l:List (Nat × Ev × Value)}(h:z4A w l X){i:Nat}{e:Ev}{a:Option Addr}{c:Nat}(hb:Bs w a c e.l)(hx:∀b o t,a=some ⟨b,o,t⟩->0 < e.l.length->X b):z4A w (l++[(i,e,.slice a e.l.length c)]) X:=fun p hp=>by
 rcases List.mem_append.1 hp with hp | hp
 ·exact h p hp
 ·obtain rfl:=List.mem_singleton.1 hp
  exact⟨a,c,rfl,hb,hx⟩
open Go.RowKit Go.Maps
theorem zig(h:rs.Nodup):(rs.map fun p:Nat=>Lit.int .i64 (p:Int)).foldl addKey []=rs.map fun p:Nat=>Lit.int .i64 (p:Int):=by
 have key:∀(ys xs:List Nat),(xs++ys).Nodup->(ys.map fun p:Nat=>Lit.int .i64 (p:Int)).foldl addKey (xs.map fun p:Nat=>Lit.int .i64 (p:Int))=(xs++ys).map fun p:Nat=>Lit.int .i64 (p:Int):=by
  intro ys
  induction ys with
  | nil=>intro xs _;simp
  | cons y ys ih =>
    intro xs hn
    rw[List.map_cons,List.foldl_cons]
    have e:addKey (xs.map fun p:Nat=>Lit.int .i64 (p:Int)) (Lit.int .i64 (y:Int))=(xs++[y]).map fun p:Nat=>Lit.int .i64 (p:Int):=by
     unfold addKey
     rw[if_neg]
     ·simp
     ·intro q
      rw[List.any_eq_true]at q
      obtain⟨z,hz,hs⟩:=q
      obtain⟨p,hp,rfl⟩:=List.mem_map.1 hz
      have hne:p≠y:=fun e=>by
       subst e
       exact(List.nodup_append.1 hn).2.2 p hp p (by simp) rfl
      rw[Go.Maps.sameKey_ne (by intro he;simp only[Lit.int.injEq,true_and]at he;exact hne (by omega))]at hs
      cases hs
    rw[e,ih (xs++[y]) (by simpa using hn)]
    simp
 have:=key rs [] (by simpa using h)
 simpa using this
theorem zjA(h:rs.Nodup):size (Dm rs)=(rs.length:Int):=by
 have e:=size_setOf (DataW.lit (Lit.bool true):DataW Unit) (rs.map fun p:Nat=>Lit.int .i64 (p:Int)) (by intro x hx;obtain⟨p,_,rfl⟩:=List.mem_map.1 hx;trivial)
 unfold Dm
 rw[e,zig h]
 simp
def zfP(kns:List Bool)(fs:List (Hd × List Nat))(o:List Nat)(k m:Nat):List Nat:=((z9L kns fs o k).map (·.1)).take m
theorem z6z(kns:List Bool)(fs:List (Hd × List Nat))(o:List Nat)(k m:Nat):(zfP kns fs o k m).Nodup:=(zfv k).sublist (List.take_sublist _ _)
theorem zgw{fs:List (Hd × List Nat)}(h:m<=(z9L kns fs o k).length):(zfP kns fs o k m).length=m:=by
 unfold zfP
 rw[List.length_take,List.length_map]
 omega
theorem zkg{fs:List (Hd × List Nat)}(h:m<=(z9L kns fs o k).length):size (Dm (zfP kns fs o k m))=(m:Int):=by
 rw[zjA (z6z kns fs o k m),zgw h]
theorem zlf {fs:List (Hd × List Nat)} (C:z6e kns fs o) (hk:k < fs.length) (hm:m < (z9L kns fs o k).length) {L:List (Nat × Ev × Value)} (hL:L.map (fun p=>(p.1,p.2.1))=z3N kns fs o fs.length) :
    ∃i e v,L.getD (zeU kns fs o k+m) dT=(i,e,v)/\zeU kns fs o k+m < L.length/\(i,e,v)∈L/\zfP kns fs o k (m+1)=zfP kns fs o k m++[i]/\i∉zfP kns fs o k m/\e.f=(frK fs o k).1/\e.l=(frK fs o k).2/\e.e=0/\i < kns.length/\((e.k=1/\i=o.getD k 0)\/(e.k=2/\i≠o.getD k 0)):=by
 have ht:=zgR kns fs o hk hm
 rw[<- hL,List.getElem?_eq_getElem hm]at ht
 have hlt:zeU kns fs o k+m < L.length:=by
  have:=(List.getElem?_eq_some_iff.1 ht).1
  simpa using this
 rw[List.getElem?_map,List.getElem?_eq_getElem hlt]at ht
 simp only[Option.map_some,Option.some.injEq]at ht
 obtain⟨x,hx⟩:∃x,L[zeU kns fs o k+m]=x:=⟨_,rfl⟩
 rw[hx]at ht
 obtain⟨i,e,v⟩:=x
 have hs:=zim C hk (i,e) (by rw[show(i,e)=(z9L kns fs o k)[m]from ht];exact List.getElem_mem hm)
 have h1:zfP kns fs o k (m+1)=zfP kns fs o k m++[i]:=by
  unfold zfP
  rw[List.take_add_one,List.getElem?_map,List.getElem?_eq_getElem hm,<- ht]
  rfl
 have h2:=z6z kns fs o k (m+1)
 rw[h1]at h2
 refine⟨i,e,v,by rw[<- hx];simp[List.getD,hlt],hlt,by rw[<- hx];exact List.getElem_mem hlt,h1,fun q=>(List.nodup_append.1 h2).2.2 i q i (by simp) rfl,hs.1,hs.2.1,hs.2.2.1,hs.2.2.2.1,hs.2.2.2.2⟩
theorem zkV{fs:List (Hd × List Nat)}{out:List (Nat × Ev)}(A:At kns fs o t ns line out):ns.length=kns.length:=by
 rcases A with ⟨_,J,_,_⟩ | ⟨_,_,_,_,_,_,I,F,_,_⟩ | ⟨_,I,_,_⟩
 ·exact J.len
 ·exact F.1.trans I.len
 ·exact I.len
theorem z28.atW {b o:Nat} {fs:List (Hd × List Nat)} (h:z28 w (some ⟨b,o,none⟩) cap fs) (hj:j < fs.length) {K I:Int} {X R B E S:Bool} {D V A:Int} (hf:fs.getD j dF=(⟨K,I,X,R,B,E,S,D,V,A⟩,l)) :
    ∃a' c',(∀w',Nb w w'->(w'.cell? ⟨b,o+j*11,none⟩=some (.int .i64 K)/\w'.cell? ⟨b,o+j*11+1,none⟩=some (.int .u32 I)/\w'.cell? ⟨b,o+j*11+2,none⟩=some (.bool X)/\w'.cell? ⟨b,o+j*11+3,none⟩=some (.bool R)/\w'.cell? ⟨b,o+j*11+4,none⟩=some (.bool B)/\w'.cell? ⟨b,o+j*11+5,none⟩=some (.bool E)/\w'.cell? ⟨b,o+j*11+6,none⟩=some (.bool S)/\w'.cell? ⟨b,o+j*11+7,none⟩=some (.int .u8 D)/\w'.cell? ⟨b,o+j*11+8,none⟩=some (.int .u8 V)/\w'.cell? ⟨b,o+j*11+9,none⟩=some (.int .u32 A)/\w'.cell? ⟨b,o+j*11+10,none⟩=some (.slice a' l.length c'))) /\
     WdX ⟨K,I,X,R,B,E,S,D,V,A⟩/\Bs w a' c' l/\(a'=none->c'=0):=by
 obtain⟨a',c',⟨x0,x1,x2,x3,x4,x5,x6,x7,x8,x9,x10⟩,h2,_,h4,h5⟩:=h.at hj hf
 refine⟨a',c',fun w' hb => ?_,h2,h4,h5⟩
 have tr:∀ {i:Nat} {u:Value},w.cell? ⟨b,i,none⟩=some u->w'.cell? ⟨b,i,none⟩=some u:=fun {i u} q=>by
  rw[hb.cell (p:=⟨b,i,none⟩) (World.block_lt_of_cell? _ _ q)]
  exact q
 exact⟨tr x0,tr x1,tr x2,tr x3,tr x4,tr x5,tr x6,tr x7,tr x8,tr x9,tr x10⟩
theorem z3a.stepP (t:Nat) (h:z3a w w' v ns line X) (hO:z26 ns) (hx:za5 60100 ns) (hB:z0i w') (ht:t < 2^ns.length) :
    Calls Tryz.prog 16 #[v,.int .u32 (t:Nat)] w' fun e w2=>∃a c P G,e = .returned (.tuple #[.slice a (z51 ns t).length c,.int .i64 0])/\z40 w2 a c (z51 ns t) P/\Kp G w' w2/\(∀k,X k->¬G k)/\z3a w w2 v (z2I ns t) (z6d (line++[z3e ns])) (fun k=>X k\/P k)/\∀k,P k->¬X k/\w.heap.size<=k/\k < w2.heap.size:=by
 obtain⟨F,h1,h2,h3,h4⟩:=h
 refine(z5d v ns line F t w' h1 hO hx hB ht).mono ?_
 rintro e w2 ⟨F',a,c,P,rfl,g0,gP,g1,g2,g3⟩
 refine⟨a,c,P,F,rfl,g0,g2,fun k hk hf=>(h2 k hf).2 hk,⟨F',g1,fun k hk=>⟨?_,fun q => ?_⟩,fun k hk => ?_,h4.trans (g2.toBelow h4.size (fun k hk=>(h2 k hk).1))⟩,fun k hk=>⟨fun q => ?_,?_,(gP k hk).1⟩⟩
 ·rcases g3 k hk with q | q
  ·exact(h2 k q).1
  ·exact Nat.le_trans h4.size q
 ·rcases q with q | q
  ·rcases g3 k hk with r | r
   ·exact(h2 k r).2 q
   ·have:=h3 k q
    omega
  ·exact(gP k q).2.1 hk
 ·rcases hk with q | q
  ·exact Nat.lt_of_lt_of_le (h3 k q) g2.size
  ·exact(gP k q).1
 ·rcases(gP k hk).2.2 with r | r
  ·exact(h2 k r).2 q
  ·have:=h3 k q
   omega
 ·rcases(gP k hk).2.2 with r | r
  ·exact(h2 k r).1
  ·exact Nat.le_trans h4.size r
theorem z3a.keepAdd{w2:World}{Z:Nat->Prop}(h:z3a w w1 v ns line X)(hk:Kp Z w1 w2)(hZ:∀k,Z k->X k)(hX:∀k,X k->w.heap.size<=k)(hY:∀k,Y k->w1.heap.size<=k/\k < w2.heap.size):z3a w w2 v ns line (fun k=>X k\/Y k):=by
 obtain⟨F,h1,h2,h3,h4⟩:=h
 refine⟨F,z57 h1 hk (fun k q r=>(h2 k q).2 (hZ k r)),fun k q=>⟨(h2 k q).1,fun r => ?_⟩,fun k q => ?_,h4.trans (hk.toBelow h4.size (fun k hk=>hX k (hZ k hk)))⟩
 ·rcases r with r | r
  ·exact(h2 k q).2 r
  ·have:=zi5 h1 k q
   have:=(hY k r).1
   omega
 ·rcases q with q | q
  ·exact Nat.lt_of_lt_of_le (h3 k q) hk.size
  ·exact(hY k q).2
theorem z3a.ltX(h:z3a w w1 v ns line X):∀k,X k->k < w1.heap.size:=by
 obtain⟨F,_,_,h3,_⟩:=h
 exact h3
theorem zc4(fs:List (Hd × List Nat))(o:List Nat){n:Nat}(h:k < n):z0Z fs o k+(frL fs o k+13)<=z0Z fs o n:=by
 induction n with
 | zero=>omega
 | succ n ih =>
   by_cases hk:k=n
   ·subst hk
    exact Nat.le_refl _
   ·have:=ih (by omega)
    rw[z0Z]
    omega
theorem zhK(fs:List (Hd × List Nat))(o:List Nat)(n:Nat):11<=z0Z fs o n:=by
 induction n with
 | zero=>exact Nat.le_refl _
 | succ n ih=>rw[z0Z];omega
theorem zjQ{fs:List (Hd × List Nat)}{out:List (Nat × Ev)}(A:At kns fs o t ns line out)(ht:z0Z fs o fs.length+29=t):z24 kns fs o ns/\line=zcG fs o fs.length++ones 29/\out=z3N kns fs o fs.length:=by
 rcases A with ⟨h,_,_,_⟩ | ⟨k,i,_,hk,hi,e,_,_,_,_⟩ | ⟨_,I,hl,ho⟩
 ·have:=zhK fs o fs.length
  omega
 ·have:=zc4 fs o hk
  omega
 ·exact⟨I,by rw[hl,show t - z0Z fs o fs.length=29 by omega],ho⟩
theorem zk4 (a a':Option Addr) (cap cap':Nat) (kns:List Bool) (fs:List (Hd × List Nat)) (w:World) (h:Bls w a cap kns) (h':z28 w a' cap' fs) (hB:z0i w) (C:z3m kns fs) :
    Calls Tryz.prog 7 #[.slice a kns.length cap,.slice a' fs.length cap'] w fun e w'=>∃vb ov L line ns X,e = .returned (.tuple #[vb,ov,.bool true])/\z3a w w' vb ns line X/\z9d w' ov L/\z4A w' L X/\L.map (fun p=>(p.1,p.2.1))=z3N kns fs (rk (z0E fs)) fs.length/\z24 kns fs (rk (z0E fs)) ns/\line=zcG fs (rk (z0E fs)) fs.length++ones 29/\z26 ns/\∀g,ov.ownBlock=some g->X g:=by
 have hW:=h'.wd
 have hl2:=h'.len
 have hn2:=C.n2
 have hn6:=C.n6
 have hle:=C.le
 have HB:=zH (fun w' (m:Nb w w')=>(hB.below m:z0i w'))
 have HNW:=zH (zaY a cap kns w h hB (by omega) (by omega))
 have HF:=zH h'
 have CC:=zH C
 have WW:=zH hW
 clear hB h h' C hW
 go_enter Tryz.func7,Tryz.ntmps7
 go_wp2_with fail
 refine HNW.out.mono ?_
 rintro e w1 ⟨RB,F,rfl,g1,g2,g3⟩
 have HN1:=zH (show z4r w w1 (.pointer (some ⟨RB,0,none⟩)) (z1A kns fs 0) [] from⟨F,g1,g2,g3⟩)
 generalize Value.pointer (some ⟨RB,0,none⟩)=vb at *
 clear g1 g2 g3 HNW
 go_wp2
 go_loopw [9,28] (fun sv ix wr=>∃k:Nat,k<=fs.length/\ix = .int .i64 k/\sv = .int .i64 (z21 fs k:Nat)/\z4r w wr vb (z1A kns fs k) []) (fun _ ix _=>fs.length - (intOf ix).toNat)
 case atStart=>exact⟨0,Nat.zero_le _,rfl,rfl,HN1.out⟩
 case round =>
  obtain⟨k,hk,rfl,rfl,hN⟩:=hrel
  have N0:=zH hN
  clear hN HN1
  have hst0:=zd1 CC.out WW.out k hk
  have hs0:z21 fs k<=3800:=by omega
  by_cases hlt:k < fs.length
  ·have hlt':decide ((k:Int) < (fs.length:Int))=true:=decide_eq_true (by omega)
   have he:=zje CC.out hlt
   obtain⟨o1,o2⟩:=zaS CC.out WW.out k hk
   have hll:=z3W kns fs k
   have hFr:=zal CC.out WW.out k hlt
   have hs24:=zez hFr (CC.out.each k hlt).2.1
   have hlen:=hFr.len.1
   have hdef:(z1A kns fs k).set k (((z1A kns fs k).getD k dN).load (fs.getD k dF).1 (fs.getD k dF).2)=z1A kns fs (k+1):=rfl
   have hstep:z21 fs (k+1)=z21 fs k+((zn (fs.getD k dF).1 (fs.getD k dF).2).length+13):=rfl
   rw[zer]at hFr hs24 hlen
   obtain⟨⟨⟨K,I,X,R,B,E,S,D,V,A⟩,l⟩,hx⟩:∃x,fs.getD k dF=x:=⟨_,rfl⟩
   obtain⟨bf,of,rfl,-⟩:=HF.out.hcells (by omega)
   obtain⟨pa,pc,hcl,hWd,hb,hpn⟩:=HF.out.atW hlt hx
   obtain⟨v0,v1,v2,v3,v4,v5,v6,v7,v8,v9,v10⟩:=hcl wr N0.out.nb
   clear hcl
   rw[hx]at he hFr hs24 hlen hdef hstep
   simp only at he hFr hs24 hlen hdef hstep
   obtain⟨AB,hAB⟩:∃AB,AB=wr.heap.size:=⟨_,rfl⟩
   obtain⟨w4,hw4⟩:∃w4,w4=wr.alloc (.cells #[.int .i64 K,.int .u32 I,.bool X,.bool R,.bool B,.bool E,.bool S,.int .u8 D,.int .u8 V,.int .u32 A,.slice pa l.length pc] 37):=⟨_,rfl⟩
   have HX4:=zH (show z3a w w4 vb (z1A kns fs k) [] (fun k=>k=AB) by rw[hw4,hAB];exact((z3a.of N0.out).add (Nb.rfl.al _) (Y:=fun k=>k=wr.heap.size) (fun k hk=>by subst hk;exact⟨Nat.le_refl _,by rw[World.size_alloc];omega⟩)).less (fun k hk => .inr hk))
   have A4:=zH (show Blk w4 AB #[.int .i64 K,.int .u32 I,.bool X,.bool R,.bool B,.bool E,.bool S,.int .u8 D,.int .u8 V,.int .u32 A,.slice pa l.length pc] 37 by rw[hw4,hAB];exact Blk.new _ _ _)
   have B4:=zH (show Nb wr w4 by rw[hw4];exact Nb.rfl.al _)
   have hld:=HX4.out.load k ⟨K,I,X,R,B,E,S,D,V,A⟩ pa pc l o1 (HB.out _ HX4.out.nb) (by rw[hll];omega) (hb.below HX4.out.nb) hpn hWd
   rw[he,hdef]at hld
   have hwi:=fun w' (m:Nb w w')=>z8h ⟨K,I,X,R,B,E,S,D,V,A⟩ pa pc l w' (hb.below m) hWd hpn
   generalize wF (⟨K,I,X,R,B,E,S,D,V,A⟩:Hd) l=Z at hwi hlen
   generalize z2J (⟨K,I,X,R,B,E,S,D,V,A⟩:Hd) l=qb at hwi
   generalize z2P (⟨K,I,X,R,B,E,S,D,V,A⟩:Hd) l=qc at hwi
   generalize erF (⟨K,I,X,R,B,E,S,D,V,A⟩:Hd) l=qd at hwi
   have hZ:Z.length<=610:=by omega
   have P1:=zH (show z21 fs (k+1)=z21 fs k+(Z.length+3) by rw[hstep];omega)
   simp only[Hd.cs]at hld hwi
   have HLD:=zH hld
   have HWI:=zH hwi
   have HW4:=zH hw4
   generalize z21 fs k=sk at *
   clear hld hwi hw4 he o1 o2 hll hFr hs24 hlen hdef hstep hx hWd hb hpn hst0
   go_wp2_with fail
   rw[<- HW4.out,<- hAB]
   clear hAB v0 v1 v2 v3 v4 v5 v6 v7 v8 v9 v10
   refine HLD.out.mono ?_
   rintro e w5 ⟨G,rfl,gk,gX,hN5⟩
   have N5:=zH hN5
   have A5:=zH (A4.out.keep gk (gX AB rfl))
   have M5:=zH (show Nb w w5 from N5.out.nb)
   have PA:=zH gk
   clear gk gX hN5 HLD HX4
   obtain⟨c0,c1,c2,c3,c4,c5,c6,c7,c8,c9,c10⟩:=A5.out.c11
   go_wp2_with fail
   refine(HWI.out _ M5.out).mono ?_
   rintro e w6 ⟨⟨az,cz,rfl,_⟩,n6⟩
   have N6:=zH (N5.out.n.keep n6)
   clear n6 c0 c1 c2 c3 c4 c5 c6 c7 c8 c9 c10 N5 A5 HWI
   go_wp2
   go_roundw
   case rel=>exact⟨k+1,by omega,by go_num,by rw[P1.out];go_num,by first | exact N6.out | exact N6.out.keep (Nb.rfl.al _)⟩
   case measure=>simp[intOf];omega
  have hlt':decide ((k:Int) < (fs.length:Int))=false:=decide_eq_false (by omega)
  obtain rfl:k=fs.length:=by omega
  obtain⟨o1,o2⟩:=zaS CC.out WW.out fs.length (Nat.le_refl _)
  have J0:=zcg CC.out
  have CO:=zH (zjX CC.out WW.out)
  have SS:=zH (z9K fs)
  have HTB:=zH hs0
  have O0:=zH o1
  have X0:=zH o2
  have J1:=zH J0
  generalize z1A kns fs fs.length=ns0 at *
  generalize z21 fs fs.length=T at *
  clear o1 o2 J0 hlt hk hst0
  go_wp2
  go_loopw [14,51] (fun ov ix wr=>∃(t:Nat) (ns:List Nd) (line:List Nat) (oL:List (Nat × Ev)) (L:List (Nat × Ev × Value)) (X D:Nat->Prop),t<=T/\ix = .int .i64 t/\At kns fs (rk (z0E fs)) t ns line oL/\z3a w wr vb ns line X/\z9d wr ov L/\z4A wr L D/\L.map (fun p=>(p.1,p.2.1))=oL/\(∀g,ov.ownBlock=some g->X g/\¬D g)/\(∀k,D k->X k)/\z26 ns/\za5 t ns/\line.length=t/\L.length<=6*t/\∀k,X k->w.heap.size<=k) (fun _ ix _=>T - (intOf ix).toNat)
  case atStart=>exact⟨0,ns0,[],[],[],fun _=>False,fun _=>False,Nat.zero_le _,rfl,.join (by omega) J1.out rfl rfl,.of N0.out,z9d.nil _,fun p hp=>(by cases hp),rfl,fun g hg=>(by simp[Value.ownBlock]at hg),fun _ q=>q,O0.out,X0.out,rfl,Nat.zero_le _,fun k q=>q.elim⟩
  case round =>
   obtain⟨t,ns,line,oL,L,X,D,ht,rfl,hAt,hN,hOw,hTl,hmap,hXo,hDX,hO,hX,hline,hLl,hXw⟩:=hrel
   by_cases hlt:t < T
   ·have hlt':decide ((t:Int) < (T:Int))=true:=decide_eq_true (by omega)
    have hlen:=zkV hAt
    have hT:=SS.out
    have hTb:T<=3800:=HTB.out
    obtain⟨hb1,hA2⟩:=zis CO.out hAt
    rw[<- zbP,<- zeo]at hA2
    have hst:=hN.stepP 0 hO (hX.up (by omega)) (HB.out _ hN.nb) (Nat.pow_pos (by omega))
    have hO2:=hO.next 0
    have hX2:=hX.next 0
    have hel:(z51 ns 0).length=kns.length:=by rw[z4T,hlen]
    have hwb:z6d (line++[z3e ns])=line++[z3e ns]:=by unfold z6d;rw[List.length_append,hline,show t+[z3e ns].length - 65536=0 by simp;omega,List.drop_zero]
    rw[hel,hwb]at hst
    generalize z2I ns 0=ms at *
    generalize z51 ns 0=es at *
    generalize z3e ns=bv at *
    have HST:=zH hst
    have A2:=zH hA2
    have O2:=zH hO2
    have X2':=zH hX2
    have EL:=zH hel
    have OW:=zH hOw
    have TL:=zH hTl
    have MP:=zH hmap
    have XO:=zH hXo
    have DX:=zH hDX
    have LN:=zH hline
    have LL:=zH hLl
    have XW:=zH hXw
    clear hst hA2 hO2 hX2 hel hwb hAt hN hOw hTl hmap hXo hDX hO hX hline hLl hXw hlen hb1 hT N0 O0 X0 J1
    go_wp2_with fail
    refine HST.out.mono ?_
    rintro e wS ⟨a1,c1,P,G,rfl,hE,gk,gX,hN2,hP⟩
    obtain⟨bE,hbe,_,_⟩:=hE.hcells (by rw[EL.out];omega)
    subst hbe
    have HE:=zH hE
    have NS:=zH hN2
    have HP:=zH hP
    have OWS:=zH (OW.out.keep gk (fun g hg=>gX g (XO.out g hg).1))
    have TLS:=zH ((TL.out.keep gk (fun k hk=>gX k (DX.out k hk))).up (Y:=fun k=>D k\/P k) (fun k hk => .inl hk))
    clear hE gk gX hN2 hP HST OW TL
    go_wp2
    go_loopw [14,69] (fun ov2 ix wr=>∃(j:Nat) (Lj:List (Nat × Ev × Value)) (X2:Nat->Prop),j<=kns.length/\ix = .int .i64 j/\z3a w wr vb ms (line++[bv]) X2/\z9d wr ov2 (L++Lj)/\z4A wr (L++Lj) (fun k=>D k\/P k)/\Lj.map (fun p=>(p.1,p.2.1))=z5o es j/\(∀g,ov2.ownBlock=some g->X2 g/\¬(D g\/P g))/\z40 wr (some ⟨bE,0,none⟩) c1 es P/\(∀k,(D k\/P k)->X2 k)/\Lj.length<=j/\∀k,X2 k->w.heap.size<=k) (fun _ ix _=>kns.length - (intOf ix).toNat)
    case atStart=>exact⟨0,[],fun k=>X k\/P k,Nat.zero_le _,rfl,NS.out,by rw[List.append_nil];exact OWS.out,by rw[List.append_nil];exact TLS.out,rfl,fun g hg=>⟨.inl (XO.out g hg).1,fun q=>q.elim (XO.out g hg).2 (fun q=>(HP.out g q).1 (XO.out g hg).1)⟩,HE.out,fun k hk=>hk.elim (fun q => .inl (DX.out k q)) .inr,Nat.le_refl _,fun k hk=>hk.elim (XW.out k) (fun q=>(HP.out k q).2.1)⟩
    case round =>
     obtain⟨j,Lj,X2,hj,rfl,hN3,hOw3,hTl3,hm3,hX3,hE3,hP3,hl3,hw3⟩:=hrel
     have N3:=zH hN3
     have OW3:=zH hOw3
     have TL3:=zH hTl3
     have MP3:=zH hm3
     have XO3:=zH hX3
     have EV3:=zH hE3
     have PX3:=zH hP3
     have WX3:=zH hw3
     clear hN3 hOw3 hTl3 hm3 hX3 hE3 hP3 hw3 NS OWS TLS HE
     by_cases hlt3:j < kns.length
     ·have hlt3':decide ((j:Int) < (kns.length:Int))=true:=decide_eq_true (by omega)
      obtain⟨⟨yk,ye,⟨yK,yI,yX,yR,yB,yE,yS,yD,yV,yA⟩,yl⟩,hy⟩:∃e,es.getD j z02=e:=⟨_,rfl⟩
      obtain⟨pa',pc',⟨x0,x1,x2,x3,x4,x5,x6,x7,x8,x9,x10,x11,x12⟩,bx,hbp⟩:=EV3.out.at (by rw[EL.out];exact hlt3) hy
      have tn:=zbW es j
      rw[hy]at tn
      have BX:=zH bx
      have BP:=zH hbp
      clear hy bx hbp
      by_cases hk0:yk=0
      ·have d0:(((yk:Nat):Int) != 0)=false:=by rw[bne_eq_false_iff_eq];omega
       have TN:=zH (show z5o es (j+1)=z5o es j by rw[tn,if_neg (by rw[z5t (.inl hk0)];simp),List.append_nil])
       clear tn
       go_wp2
       go_roundw
       case rel=>exact⟨j+1,Lj,X2,by omega,by go_num,N3.out.keep (Nb.rfl.al _),OW3.out.nb (Nb.rfl.al _),TL3.out.keep (F:=fun _=>False) (Kp.ofNb (Nb.rfl.al _)) (by simp),by rw[MP3.out,TN.out],XO3.out,EV3.out.nb (Nb.rfl.al _),PX3.out,by omega,WX3.out⟩
       case measure=>simp[intOf];omega
      have d0:(((yk:Nat):Int) != 0)=true:=by rw[bne_iff_ne];omega
      by_cases hk3:yk=3
      ·have d3:(((yk:Nat):Int) != 3)=false:=by rw[bne_eq_false_iff_eq];omega
       have TN:=zH (show z5o es (j+1)=z5o es j by rw[tn,if_neg (by rw[z5t (.inr hk3)];simp),List.append_nil])
       clear tn
       go_wp2
       go_roundw
       case rel=>exact⟨j+1,Lj,X2,by omega,by go_num,N3.out.keep (Nb.rfl.al _),OW3.out.nb (Nb.rfl.al _),TL3.out.keep (F:=fun _=>False) (Kp.ofNb (Nb.rfl.al _)) (by simp),by rw[MP3.out,TN.out],XO3.out,EV3.out.nb (Nb.rfl.al _),PX3.out,by omega,WX3.out⟩
       case measure=>simp[intOf];omega
      have d3:(((yk:Nat):Int) != 3)=true:=by rw[bne_iff_ne];omega
      have TN:=zH (show z5o es (j+1)=z5o es j++[(j,⟨yk,ye,⟨yK,yI,yX,yR,yB,yE,yS,yD,yV,yA⟩,yl⟩)] by
       rw[tn,if_pos (by
        unfold zfO
        rw[beq_eq_false_iff_ne.2 hk0,beq_eq_false_iff_ne.2 hk3]
        rfl)])
      clear tn hk0 hk3
      have B14:=zH (Blk.new (wr.alloc (.cells #[.int .i64 (yk:Nat),.int .i64 (ye:Nat),.int .i64 yK,.int .u32 yI,.bool yX,.bool yR,.bool yB,.bool yE,.bool yS,.int .u8 yD,.int .u8 yV,.int .u32 yA,.slice pa' yl.length pc'] 40)) #[.int .i64 (j:Nat),.int .i64 (yk:Nat),.int .i64 (ye:Nat),.int .i64 yK,.int .u32 yI,.bool yX,.bool yR,.bool yB,.bool yE,.bool yS,.int .u8 yD,.int .u8 yV,.int .u32 yA,.slice pa' yl.length pc'] 42)
      go_wp2_with (at_builtin;refine za2 _ rfl (.tmp 82) (.tmp 86) rfl _ (L++Lj) rfl (OW3.out.nb ((Nb.rfl.al _).al _)) _ j ⟨yk,ye,⟨yK,yI,yX,yR,yB,yE,yS,yD,yV,yA⟩,yl⟩ pa' yl.length pc' rfl ?_ (by rw[List.length_append];have:=LL.out;have:=HTB.out;omega) ?_)
      ·have q:=B14.out
       rw[World.size_alloc]at q
       exact fun i u hu=>(q.cell i).trans (by rw[List.getElem?_toArray];exact hu)
      intro v2 w2 ho2 hk2 hf2
      have NA:Nb wr ((wr.alloc (.cells #[.int .i64 (yk:Nat),.int .i64 (ye:Nat),.int .i64 yK,.int .u32 yI,.bool yX,.bool yR,.bool yB,.bool yE,.bool yS,.int .u8 yD,.int .u8 yV,.int .u32 yA,.slice pa' yl.length pc'] 40)).alloc (.cells #[.int .i64 (j:Nat),.int .i64 (yk:Nat),.int .i64 (ye:Nat),.int .i64 yK,.int .u32 yI,.bool yX,.bool yR,.bool yB,.bool yE,.bool yS,.int .u8 yD,.int .u8 yV,.int .u32 yA,.slice pa' yl.length pc'] 42)):=(Nb.rfl.al _).al _
      have hsz:((wr.alloc (.cells #[.int .i64 (yk:Nat),.int .i64 (ye:Nat),.int .i64 yK,.int .u32 yI,.bool yX,.bool yR,.bool yB,.bool yE,.bool yS,.int .u8 yD,.int .u8 yV,.int .u32 yA,.slice pa' yl.length pc'] 40)).alloc (.cells #[.int .i64 (j:Nat),.int .i64 (yk:Nat),.int .i64 (ye:Nat),.int .i64 yK,.int .u32 yI,.bool yX,.bool yR,.bool yB,.bool yE,.bool yS,.int .u8 yD,.int .u8 yV,.int .u32 yA,.slice pa' yl.length pc'] 42)).heap.size=wr.heap.size+1+1:=by rw[World.size_alloc,World.size_alloc]
      obtain⟨av,cv,hv,hat⟩:=ho2.at
      obtain⟨g0,_,hg0,hgl,_⟩:=hat 0 (by simp only[List.length_append,List.length_singleton];omega)
      have hN:=(N3.out.keep NA).keepAdd hk2 (fun k hk=>(XO3.out k hk).1) WX3.out (Y:=fun k=>v2.ownBlock=some k/\wr.heap.size+1+1<=k) (fun k hk=>⟨by rw[hsz];exact hk.2,by
       obtain rfl:k=g0:=Option.some.inj (hk.1.symm.trans hg0)
       exact hgl⟩)
      have R1:=zH hN
      have R2:=zH ho2
      have R3:=zH (((TL3.out.keep (F:=fun _=>False) (Kp.ofNb NA) (by simp)).keep hk2 (fun k hk e=>(XO3.out k e).2 hk)).snoc (i:=j) (e:=⟨yk,ye,⟨yK,yI,yX,yR,yB,yE,yS,yD,yV,yA⟩,yl⟩) ((BX.out.below NA).keepKp0 hk2 (fun b o t e hl q=>(XO3.out b q).2 (.inr (BP.out b o t e hl)))) (fun b o t e hl => .inr (BP.out b o t e hl)))
      have R4:=zH (show ∀g,v2.ownBlock=some g->(X2 g\/(v2.ownBlock=some g/\wr.heap.size+1+1<=g))/\¬(D g\/P g)from fun g hg=>by
       rcases hf2 g hg with h | h
       ·exact⟨.inl (XO3.out g h).1,(XO3.out g h).2⟩
       ·have h':wr.heap.size+1+1<=g:=by first | exact h | (rw[hsz]at h;exact h)
        exact⟨.inr ⟨hg,h'⟩,fun q=>by
         have:=N3.out.ltX g (PX3.out g q)
         omega⟩)
      have R5:=zH ((EV3.out.nb NA).keep hk2 (fun k hk e=>(XO3.out k e).2 (.inr hk)))
      have R6:=zH N3.out.nb.size
      have R7:=zH N3.out.nb
      clear ho2 hk2 hf2 NA hsz hv hat hg0 hgl hN B14 x0 x1 x2 x3 x4 x5 x6 x7 x8 x9 x10 x11 x12
      go_wp2
      go_roundw
      case rel =>
       refine⟨j+1,Lj++[(j,⟨yk,ye,⟨yK,yI,yX,yR,yB,yE,yS,yD,yV,yA⟩,yl⟩,.slice pa' yl.length pc')],_,by omega,by go_num,R1.out,by first | exact R2.out | (rw[<- List.append_assoc];exact R2.out),by rw[<- List.append_assoc];exact R3.out,by rw[List.map_append,MP3.out,TN.out];rfl,R4.out,R5.out,fun k hk => .inl (PX3.out k hk),by rw[List.length_append];simp;omega,fun k hk=>hk.elim (WX3.out k) (fun q=>by have:=R6.out;have:=q.2;omega)⟩
      case measure=>simp[intOf];omega
     ·have hlt3':decide ((j:Int) < (kns.length:Int))=false:=decide_eq_false (by omega)
      obtain rfl:j=kns.length:=by omega
      go_wp2
      go_roundw
      case rel=>exact⟨t+1,ms,_,_,L++Lj,X2,fun k=>D k\/P k,by omega,by go_num,A2.out,N3.out,OW3.out,TL3.out,by rw[List.map_append,MP.out,MP3.out,<- EL.out,zee],XO3.out,PX3.out,O2.out,X2'.out,by rw[List.length_append,LN.out];rfl,by rw[List.length_append];have:=LL.out;omega,WX3.out⟩
      case measure=>simp[intOf];omega
   ·have hlt':decide ((t:Int) < (T:Int))=false:=decide_eq_false (by omega)
    obtain rfl:t=T:=by omega
    obtain⟨q1z,q2z,q3z⟩:=zjQ hAt SS.out
    have F1:=zH q1z
    have F2:=zH q2z
    have F3:=zH (hmap.trans q3z)
    have N:=zH hN
    have OW:=zH hOw
    have TL:=zH (hTl.up hDX)
    have XO:=zH hXo
    have OK:=zH hO
    clear q1z q2z q3z hAt hN hOw hTl hmap hXo hDX hO hX hline hLl hXw
    go_wp2
    go_ret3
    exact⟨_,_,L,_,ns,X,rfl,N.out,OW.out,TL.out,F3.out,F1.out,F2.out,OK.out,fun g hg=>(XO.out g hg).1⟩
end Go.Proofs.YtplbmlpdefpplaaGreatDoor
