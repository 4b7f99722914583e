/- For every slice of frames the law OrderPlaces answers true and leaves its argument as it was; the package's table of longer sizes is tied to the program's text. No conditions. -/
import Derived.Test.YtkofdbccdfpllaaDoorRows
import Derived.Test.YtkofdbccdfpllaaDoorCards
import Derived.Test.YtkofdbccdfpllaaDoorTie
import Derived.Test.YtkofdbccdfpllaaDoorOrA
import Derived.Test.YtkofdbccdfpllaaDoorOrV
import Derived.Test.YtkofdbccdfpllaaDoorGor
import Derived.Test.YtkofdbccdfpllaaDoorOrO
import Derived.Test.YtkofdbccdfpllaaDoorOrM
import Derived.Test.YtkofdbccdfpllaaDoorGe
import Derived.WalkKit
import Derived.ProofKit
import Derived.OpenShut
import Derived.ShutString
import Derived.ChangeOld
import Derived.Below
import Derived.Carry
import Derived.Lib.SmallJoins
import Derived.Deep.RegionWith
import Derived.Deep.RegionHeld3
import Derived.LaidMore
import Derived.LaidLaws
import Derived.Stop.Joined
import Derived.SevenTiedAt
set_option maxHeartbeats 4000000
set_option maxRecDepth 100000
namespace Go.Proofs.YtkofdbccdfpllaaDoor.orderPlaces
open Go.ChangeShapes Go.WideShapes Go.ChangeAt Go.RowKit Go.Joins
set_option linter.unusedVariables false
set_option linter.unusedSimpArgs false
theorem own:ownKnob Tryd.prog.godebug=none:=by kernel_rfl
theorem laidOut:laidOutB Tryd.prog=true:=by kernel_rfl
open Go.Maps
theorem kept {w u:World} (n:Nb w u) {p:Addr} {v:Value} (h:w.cell? p=some v):u.cell? p=some v:=by
 rw[n.cell (World.block_lt_of_cell? _ _ h)]
 exact h
theorem walk (w:World) (hK:Longer w) (a0:Option Addr) (cap0:Nat) (l0:List (Hd × List Nat)) (h0:FrsAt w a0 cap0 l0) (n0:a0=none->cap0=0) :
    Calls Tryd.prog 4 #[.slice a0 l0.length cap0] w fun e w'=>e = .returned (.bool true)/\Nb w w':=by
 have HK:=Lib.hid hK
 have hL0:=h0.len
 have hcap0:=h0.hcap
 have HF:=Lib.hid h0
 have AL:=Lib.hid (fun w' (n:Nb w w')=>alive10_any w' (hK.below n))
 clear hK n0 h0
 by_cases hbig:60 < l0.length
 ·have d0:decide ((60:Int) < (l0.length:Int))=true:=decide_eq_true (by omega)
  clear hbig
  go_enter Tryd.func4,Tryd.ntmps4
  go_wp2_with fail
  refine (AL.out _ Nb.rfl).mono ?_
  rintro e z1 ⟨rfl,q1⟩
  have M1:=Lib.hid q1
  clear q1
  go_wp2
  go_ret
  exact⟨rfl,M1.out⟩
 have d0:decide ((60:Int) < (l0.length:Int))=false:=decide_eq_false (by omega)
 have hle:l0.length<=60:=by omega
 have k1:=fun w' (n:Nb w w')=>rank10_any a0 cap0 l0 w' (HF.out.below n) (by omega) (HK.out.below n)
 have k3:=fun w' (n:Nb w w')=>first10_any a0 cap0 l0 w' (HF.out.below n) (by omega) (HK.out.below n)
 unfold AnsN rankV rankE at k1
 unfold firstV firstE rankV at k3
 clear hbig
 cases hok:allOk l0 with
 | false =>
   simp only[hok,Bool.false_eq_true,if_false] at k1 k3
   have e0:([]:List Nat).getD 0 0=0:=rfl
   rw[e0] at k3
   have K1:=Lib.hid k1
   have K3:=Lib.hid k3
   clear k1 k3 hok e0
   go_enter Tryd.func4,Tryd.ntmps4
   go_wp2_with fail
   refine (AL.out _ Nb.rfl).mono ?_
   rintro e z1 ⟨rfl,q1⟩
   have M1:=Lib.hid q1
   clear q1
   go_wp2_with fail
   refine (K1.out _ M1.out).mono ?_
   rintro e z2 ⟨⟨v2,rfl,o2,f2⟩,q2⟩
   have M2:=Lib.hid (M1.out.tr q2)
   obtain⟨va,vc,rfl,_,_,_⟩:=o2.shape
   clear q2 o2 f2
   go_wp2_with fail
   refine (K3.out _ M2.out).mono ?_
   rintro e z3 ⟨rfl,q3⟩
   have M3:=Lib.hid (M2.out.tr q3)
   clear q3
   go_wp2
   go_ret
   exact⟨rfl,M3.out⟩
 | true =>
   simp only[hok,if_true] at k1 k3
   have hrl:(rk (keysV l0)).length=l0.length:=by rw[rk_len,keysV_len]
   have HOk:=Lib.hid hok
   clear hok
   by_cases hz:l0.length=0
   ·rw[if_pos hz] at k3
    have hnil:rk (keysV l0)=[]:=List.length_eq_zero_iff.1 (by rw[hrl];exact hz)
    rw[hnil] at k1 k3
    have e0:([]:List Nat).getD 0 0=0:=rfl
    rw[e0] at k3
    have K1:=Lib.hid k1
    have K3:=Lib.hid k3
    have dz1:((l0.length:Int)==0)=true:=by rw[hz];rfl
    have dz2:((0:Int) != (l0.length:Int))=false:=by rw[hz];rfl
    clear k1 k3 e0 hnil hrl hz hle
    go_enter Tryd.func4,Tryd.ntmps4
    go_wp2_with fail
    refine (AL.out _ Nb.rfl).mono ?_
    rintro e z1 ⟨rfl,q1⟩
    have M1:=Lib.hid q1
    clear q1
    go_wp2_with fail
    refine (K1.out _ M1.out).mono ?_
    rintro e z2 ⟨⟨v2,rfl,o2,f2⟩,q2⟩
    have M2:=Lib.hid (M1.out.tr q2)
    obtain⟨va,vc,rfl,_,_,_⟩:=o2.shape
    clear q2 o2 f2
    go_wp2_with fail
    refine (K3.out _ M2.out).mono ?_
    rintro e z3 ⟨rfl,q3⟩
    have M3:=Lib.hid (M2.out.tr q3)
    clear q3
    go_wp2
    go_ret
    exact⟨by first | rfl | simp,M3.out⟩
   ·rw[if_neg hz] at k3
    obtain⟨bF,oF,rfl,hcc⟩:=HF.out.hcells (by omega)
    clear hcc
    have K1:=Lib.hid k1
    have K3:=Lib.hid k3
    have HRL:=Lib.hid hrl
    have HN:=Lib.hid (fun j hj=>rank_next HOk.out (j:=j) hj)
    have HAp:=Lib.hid (fun k hk=>rank_apart (keysV l0) (k:=k) hk)
    have hkl:=keysV_len l0
    have HKL:=Lib.hid hkl
    clear k1 k3 hrl hkl
    generalize hrk:rk (keysV l0)=rs at *
    clear hrk
    obtain⟨x0,hx0⟩:∃ x0,x0=rs.getD 0 0:=⟨_,rfl⟩
    rw[<- hx0] at K3
    have HX0:=Lib.hid hx0
    clear hx0
    have hmm:=@run_makeMap Tryd.prog
    have dz:((l0.length:Int)==0)=false:=by rw[beq_eq_false_iff_ne];omega
    go_enter Tryd.func4,Tryd.ntmps4
    go_wp2_with fail
    refine (AL.out _ Nb.rfl).mono ?_
    rintro e z1 ⟨rfl,q1⟩
    have M1:=Lib.hid q1
    clear q1
    go_wp2_with fail
    refine (K1.out _ M1.out).mono ?_
    rintro e z2 ⟨⟨v2,rfl,o2,f2⟩,q2⟩
    have M2:=Lib.hid (M1.out.tr q2)
    obtain⟨va,vc,hve,hva,_,_⟩:=o2.shape
    rw[HRL.out] at hve
    subst hve
    obtain⟨g,rfl⟩:=hva (by rw[HRL.out];omega)
    have O2:=Lib.hid o2
    clear q2 o2 f2 hva
    go_wp2_with fail
    refine (K3.out _ M2.out).mono ?_
    rintro e z3 ⟨rfl,q3⟩
    have M3:=Lib.hid (M2.out.tr q3)
    have O3:=Lib.hid (O2.out.nb q3)
    clear q3
    go_wp2
    obtain⟨z4,hz4⟩:∃ z4,z4=z3.alloc (.map #[] 0):=⟨_,rfl⟩
    obtain⟨BM,hBM⟩:∃ BM,BM=z3.heap.size:=⟨_,rfl⟩
    have MP:=Lib.hid (show z4.ownsMap Tryd.prog 3 (plainElem (H:=Unit) Tryd.prog 4) BM 0 (Dm []) by rw[hz4,hBM];exact World.ownsMap_made _ _ _ _)
    have M4:=Lib.hid (show Nb w z4 by rw[hz4];exact Nb.al M3.out _)
    have O4:=Lib.hid (show OwnN z4 (.slice (some ⟨g,0,none⟩) l0.length vc) rs by rw[hz4];exact O3.out.nb (Nb.rfl.al _))
    have hgB:g < BM:=by rw[hBM];exact O3.out.lt rfl
    have hwB:w.heap.size<=BM:=by rw[hBM];exact M3.out.size
    rw[<- hz4,<- hBM]
    clear hz4 hBM O3 O2
    have hbnd:l0.length<=9223372036854775807:=hL0
    go_loopw [62] (fun ix wr=>∃ k:Nat,k<=l0.length/\ix = .int .i64 k/\wr.ownsMap Tryd.prog 3 (plainElem (H:=Unit) Tryd.prog 4) BM k (Dm (rs.take k))/\Kp (fun x=>x=BM) z4 wr) (fun ix _=>l0.length - (intOf ix).toNat)
    case atStart=>exact⟨0,Nat.zero_le _,rfl,by rw[List.take_zero];exact MP.out,Kp.rfl⟩
    case round =>
     obtain⟨k,hk,rfl,hmp,hkp⟩:=hrel
     have HMp:=Lib.hid hmp
     have HKp:=Lib.hid hkp
     have OR:=Lib.hid (O4.out.keep hkp (fun x hx h=>by simp[Value.ownBlock] at hx;omega))
     have NB:=Lib.hid (M4.out.trans (hkp.toBelow M4.out.size (fun x hx=>by omega)))
     clear hmp hkp
     by_cases hkn:k < l0.length
     ·obtain⟨a1,a2,a3⟩:=HAp.out k (by rw[HKL.out];exact hkn)
      rw[HKL.out] at a2
      have c1:=OR.out.cell k (by rw[HRL.out];exact hkn)
      have hlk:=met_no HMp.out a1 (by omega)
      have HT:=Lib.hid (show Dm (rs.take (k+1))=(Dm (rs.take k)).put (.int .i64 (rs.getD k 0:Int)) (.lit (.bool true)) by rw[a3,Dm_snoc])
      have hkey:=keyInt (rs.getD k 0) (by omega)
      have HKey:=Lib.hid hkey
      have HNk:=Lib.hid (fun j (h:k=j+1)=>HN.out j (by omega))
      have HCP:=Lib.hid (fun j (h:k=j+1)=>OR.out.cell j (by rw[HRL.out];omega))
      have HPk:=Lib.hid (fun j (h:k=j+1)=>show rs.getD (j+1) 0=rs.getD k 0 by rw[h])
      clear a1 a3 hkey
      generalize hp:rs.getD k 0=p at *
      clear hp
      have dp0:decide ((p:Int) < 0)=false:=decide_eq_false (by omega)
      have dp1:decide ((l0.length:Int)<=(p:Int))=false:=decide_eq_false (by omega)
      have kn:(k:Int) < (l0.length:Int):=by omega
      by_cases hk0:k=0
      ·subst hk0
       go_wp2_with (at_mapUpdate;refine wpList_mapUpdate_own _ rfl _ _ _ 32 rfl 3 4 keyedInt Tryd.underlying32 _ BM 0 _ rfl HMp.out (by unfold maxLen;omega) _ _ _ rfl rfl HKey.out _ [] (plainElem_bool Tryd.underlying4 true) ?_)
       intro w1 hown1 hgrow1
       have HO1:=Lib.hid hown1
       have HK1:=Lib.hid (HKp.out.tr (Kp.grown (F:=fun x=>x=BM) hgrow1 (fun x hx=>by simp at hx;omega)) (fun _ h => .inl h))
       clear hown1 hgrow1
       go_wp2
       go_roundw
       case rel=>exact⟨0+1,by omega,by go_num,by rw[HT.out];exact HO1.out,HK1.out⟩
       case measure=>simp[intOf];omega
      ·obtain⟨j,hkj⟩:∃ j,k=j+1:=⟨k - 1,by omega⟩
       obtain⟨n1,n2,n3,n4⟩:=HNk.out j hkj
       rw[HPk.out j hkj] at n3 n4
       have c2:=HCP.out j hkj
       have dk0:((k:Int)==0)=false:=by rw[beq_eq_false_iff_ne];omega
       have HKJ:=Lib.hid hkj
       have hjlt:j < l0.length:=by omega
       have hjn:(j:Int) < (l0.length:Int):=by omega
       have hj60:(j:Int)<=60:=by omega
       clear hkj
       generalize hq:rs.getD j 0=q at *
       have hqn:(q:Int) < (l0.length:Int):=by omega
       have hpn:(p:Int) < (l0.length:Int):=by omega
       have hqL:q < l0.length:=n1
       have hpL:p < l0.length:=a2
       go_wp2_with (at_mapUpdate;refine wpList_mapUpdate_own _ rfl _ _ _ 32 rfl 3 4 keyedInt Tryd.underlying32 _ BM k _ rfl HMp.out (by unfold maxLen;omega) _ _ _ rfl rfl HKey.out _ [] (plainElem_bool Tryd.underlying4 true) ?_)
       intro w1 hown1 hgrow1
       have HO1:=Lib.hid hown1
       have HK1:=Lib.hid (HKp.out.tr (Kp.grown (F:=fun x=>x=BM) hgrow1 (fun x hx=>by simp at hx;omega)) (fun _ h => .inl h))
       have NB1:=Lib.hid (M4.out.trans (HK1.out.toBelow M4.out.size (fun x hx=>by omega)))
       have OR1:=Lib.hid (O4.out.keep HK1.out (fun x hx h=>by simp[Value.ownBlock] at hx;omega))
       clear hown1 hgrow1 c1 c2 hlk
       have hatq:=fun K I X R B E S D V A l=>(HF.out.below NB1.out).at hqL (K:=K) (I:=I) (X:=X) (R:=R) (B:=B) (E:=E) (S:=S) (D:=D) (V:=V) (A:=A) (l:=l)
       have hatp:=fun K I X R B E S D V A l=>(HF.out.below NB1.out).at hpL (K:=K) (I:=I) (X:=X) (R:=R) (B:=B) (E:=E) (S:=S) (D:=D) (V:=V) (A:=A) (l:=l)
       obtain⟨⟨⟨K,I,X,RT,B,E,S,D,V,A⟩,lq⟩,hfq⟩:∃ x,x=l0.getD q dF:=⟨_,rfl⟩
       obtain⟨⟨⟨K',I',X',RT',B',E',S',D',V',A'⟩,lp⟩,hfp⟩:∃ x,x=l0.getD p dF:=⟨_,rfl⟩
       obtain⟨aq,cq,⟨s0,s1,s2,s3,s4,s5,s6,s7,s8,s9,s10⟩,hWq,hKq,hBq,hnq⟩:=hatq K I X RT B E S D V A lq hfq.symm
       obtain⟨ap,cp,⟨t0,t1,t2,t3,t4,t5,t6,t7,t8,t9,t10⟩,hWp,hKp',hBp,hnp⟩:=hatp K' I' X' RT' B' E' S' D' V' A' lp hfp.symm
       rw[<- hfq,<- hfp] at n3 n4
       simp only at n3 n4
       have kc:=fun w' (n:Nb w1 w')=>compare_any ⟨K,I,X,RT,B,E,S,D,V,A⟩ ⟨K',I',X',RT',B',E',S',D',V',A'⟩ aq ap cq cp lq lp w' (hBq.below n) (hBp.below n) hWq.1 hWp.1 ((HK.out.below NB1.out).below n)
       unfold AnsC at kc
       rw[n3] at kc
       generalize cmpV ⟨K,I,X,RT,B,E,S,D,V,A⟩ ⟨K',I',X',RT',B',E',S',D',V',A'⟩ lq lp=XV at kc n4
       simp only[Hd.cs] at kc
       have KC:=Lib.hid kc
       have hlq:=hBq.len
       have hlp:=hBp.len
       have c2:=OR1.out.cell j (by rw[HRL.out];omega)
       rw[hq] at c2
       have H4:=Lib.hid n4
       clear kc n3 n4 hatq hatp hfq hfp hWq hKq hBq hnq hWp hKp' hBp hnp hq
       have HS:=Lib.hid (fun w' (n:Nb w1 w')=>(⟨kept n c2,kept n s0,kept n s1,kept n s2,kept n s3,kept n s4,kept n s5,kept n s6,kept n s7,kept n s8,kept n s9,kept n s10,kept n t0,kept n t1,kept n t2,kept n t3,kept n t4,kept n t5,kept n t6,kept n t7,kept n t8,kept n t9,kept n t10⟩:w'.cell? ⟨g,j,none⟩=some (.int .i64 (q:Nat))/\w'.cell? ⟨bF,oF+q*11,none⟩=some (.int .i64 K)/\w'.cell? ⟨bF,oF+q*11+1,none⟩=some (.int .u32 I)/\w'.cell? ⟨bF,oF+q*11+2,none⟩=some (.bool X)/\w'.cell? ⟨bF,oF+q*11+3,none⟩=some (.bool RT)/\w'.cell? ⟨bF,oF+q*11+4,none⟩=some (.bool B)/\w'.cell? ⟨bF,oF+q*11+5,none⟩=some (.bool E)/\w'.cell? ⟨bF,oF+q*11+6,none⟩=some (.bool S)/\w'.cell? ⟨bF,oF+q*11+7,none⟩=some (.int .u8 D)/\w'.cell? ⟨bF,oF+q*11+8,none⟩=some (.int .u8 V)/\w'.cell? ⟨bF,oF+q*11+9,none⟩=some (.int .u32 A)/\w'.cell? ⟨bF,oF+q*11+10,none⟩=some (.slice aq lq.length cq)/\w'.cell? ⟨bF,oF+p*11,none⟩=some (.int .i64 K')/\w'.cell? ⟨bF,oF+p*11+1,none⟩=some (.int .u32 I')/\w'.cell? ⟨bF,oF+p*11+2,none⟩=some (.bool X')/\w'.cell? ⟨bF,oF+p*11+3,none⟩=some (.bool RT')/\w'.cell? ⟨bF,oF+p*11+4,none⟩=some (.bool B')/\w'.cell? ⟨bF,oF+p*11+5,none⟩=some (.bool E')/\w'.cell? ⟨bF,oF+p*11+6,none⟩=some (.bool S')/\w'.cell? ⟨bF,oF+p*11+7,none⟩=some (.int .u8 D')/\w'.cell? ⟨bF,oF+p*11+8,none⟩=some (.int .u8 V')/\w'.cell? ⟨bF,oF+p*11+9,none⟩=some (.int .u32 A')/\w'.cell? ⟨bF,oF+p*11+10,none⟩=some (.slice ap lp.length cp)))
       have ej2:IntKind.i64.wrap ((k:Int) - 1)=(j:Int):=by rw[IntKind.wrap_i64];have:=HKJ.out;omega
       clear hjlt hk0
       go_wp2_with fail
       have NB7:RowKit.Hid (Nb w1 w1.drew):=Lib.hid (Below.drew (Below.refl _ _))
       go_region_held3 (fun w'=>w'.cell? ⟨g,j,none⟩=some (.int .i64 (q:Nat))/\w'.cell? ⟨bF,oF+q*11,none⟩=some (.int .i64 K)/\w'.cell? ⟨bF,oF+q*11+1,none⟩=some (.int .u32 I)/\w'.cell? ⟨bF,oF+q*11+2,none⟩=some (.bool X)/\w'.cell? ⟨bF,oF+q*11+3,none⟩=some (.bool RT)/\w'.cell? ⟨bF,oF+q*11+4,none⟩=some (.bool B)/\w'.cell? ⟨bF,oF+q*11+5,none⟩=some (.bool E)/\w'.cell? ⟨bF,oF+q*11+6,none⟩=some (.bool S)/\w'.cell? ⟨bF,oF+q*11+7,none⟩=some (.int .u8 D)/\w'.cell? ⟨bF,oF+q*11+8,none⟩=some (.int .u8 V)/\w'.cell? ⟨bF,oF+q*11+9,none⟩=some (.int .u32 A)/\w'.cell? ⟨bF,oF+q*11+10,none⟩=some (.slice aq lq.length cq)/\w'.cell? ⟨bF,oF+p*11,none⟩=some (.int .i64 K')/\w'.cell? ⟨bF,oF+p*11+1,none⟩=some (.int .u32 I')/\w'.cell? ⟨bF,oF+p*11+2,none⟩=some (.bool X')/\w'.cell? ⟨bF,oF+p*11+3,none⟩=some (.bool RT')/\w'.cell? ⟨bF,oF+p*11+4,none⟩=some (.bool B')/\w'.cell? ⟨bF,oF+p*11+5,none⟩=some (.bool E')/\w'.cell? ⟨bF,oF+p*11+6,none⟩=some (.bool S')/\w'.cell? ⟨bF,oF+p*11+7,none⟩=some (.int .u8 D')/\w'.cell? ⟨bF,oF+p*11+8,none⟩=some (.int .u8 V')/\w'.cell? ⟨bF,oF+p*11+9,none⟩=some (.int .u32 A')/\w'.cell? ⟨bF,oF+p*11+10,none⟩=some (.slice ap lp.length cp)) (first | go_keep | exact HS.out _ NB7.out) ((go_at_call 11;refine (KC.out _ NB7.out).mono ?_;rintro e w2 ⟨rfl,m2⟩;have NB7:=Lib.hid (NB7.out.tr m2)))
       rename_i hHeld
       have c3:=hHeld.1
       have HH4:=H4.out
       clear hHeld s0 s1 s2 s3 s4 s5 s6 s7 s8 s9 s10 t0 t1 t2 t3 t4 t5 t6 t7 t8 t9 t10 c2
       rcases HH4 with rfl | ⟨rfl,hqp⟩
       ·go_wp2
        go_roundw
        case rel=>exact⟨k+1,by omega,by go_num,by rw[HT.out];exact ownsMap_nb HO1.out NB7.out,HK1.out.tr (Kp.ofNb (F:=fun _=>False) NB7.out) (fun _ h=>h.elim)⟩
        case measure=>simp[intOf];omega
       ·have dqp:decide ((p:Int) < (q:Int))=false:=decide_eq_false (by omega)
        have dqp2:decide (p < q)=false:=decide_eq_false (by omega)
        have ej6:(k:Int) - 1=(j:Int):=by have:=HKJ.out;omega
        clear hqp
        go_wp2
        go_roundw
        case rel=>exact⟨k+1,by omega,by go_num,by rw[HT.out];exact ownsMap_nb HO1.out NB7.out,HK1.out.tr (Kp.ofNb (F:=fun _=>False) NB7.out) (fun _ h=>h.elim)⟩
        case measure=>simp[intOf];omega
     ·have c0:=OR.out.cell 0 (by rw[HRL.out];omega)
      rw[<- HX0.out] at c0
      have hpos:(0:Int) < (l0.length:Int):=by omega
      have kn:decide ((k:Int) < (l0.length:Int))=false:=decide_eq_false (by omega)
      go_wp2
      go_ret
      exact⟨by simp,NB.out⟩
theorem door_met (os:Os) (args:Array Value):laidMetH Tryd.prog Rows.orderPlacesRow.laid ((World.doorLaid Tryd.prog 24 os).forCall (fun _ _=>0) ⟨#[],args,[]⟩).memory :=
 laidMetH_of_parts3 (fuel:=8) (laidMet_of_run' 8 (by kernel_rfl) (by kernel_rfl)) (by kernel_rfl) (by kernel_rfl)
theorem lifted (os:Os) (started:os.Started) (H:Type) (enc:TypeId × Value->H) :
    ReturnsInHanded {} Tryd.checked os 4 .any (fun w args=>(Rows.orderPlacesSpec.pre enc Tryd.prog Tryd.f4 [] false w args/\laidMetH Tryd.prog Rows.orderPlacesRow.laid w)/\sizedMet enc Tryd.prog Tryd.f4 (OpenSpec.ofChange Rows.orderPlacesSpec) false w args)
     (Rows.orderPlacesSpec.post enc Tryd.prog Tryd.f4 false true false false):=by
 refine returnsInHanded_of_change_and (C:=Tryd.checked) (X:=fun w _=>laidMetH Tryd.prog Rows.orderPlacesRow.laid w) (fun _ _ _ hh h=>h.of_heap hh) own started (by kernel_rfl) Tryd.func4
  (ChangeSpec.witness_shaped (enc:=enc) (C:=Tryd.checked) (os:=os) (X:=fun w _=>laidMetH Tryd.prog Rows.orderPlacesRow.laid w) false (World.doorLaid Tryd.prog 24 os) #[.slice none 0 0] 8 rfl (World.shaped_of_RefB (by kernel_rfl) (by kernel_rfl)) (by kernel_rfl) (by kernel_rfl) (by kernel_rfl) (door_met os _)) ?_
 intro W base args ds gs before hval0 hW _ hR hL _
 have hval:∀ (j:Nat) t v,Tryd.f4.params[j]? = some t->args[j]? = some v->Value.okWide Tryd.prog W .any base t v:=hval0
 have hW':=hW
 obtain⟨p,q,hA0,hV,rfl,hfz,hnd⟩:=hW
 have hA:DataW.TrodAll enc Tryd.prog W 0 (fun _=>true) true Tryd.f4.params.toList args.toList ds p:=hA0
 rw[Tryd.params4] at hA hval
 obtain⟨v0,vs0,d0,ds0,p0,q0,hargs,rfl,rfl,h0,r0⟩:=trodAll_cons hA
 obtain⟨rfl,rfl,rfl⟩:=trodAll_nil r0
 obtain rfl:args=#[v0]:=by cases args;simp_all
 obtain⟨rfl,rfl⟩:=trodVars_none hV
 have k0:=h0
 have lt0:∀ x∈p0,x.block < W.heap.size:=by obtain⟨m,hm⟩:=k0;exact DataW.trod_lt m _ _ _ hm
 clear hA0
 obtain⟨a0,lc0,cap0,rfl⟩:=okWide_slice Tryd.underlying22 (hval 0 22 v0 rfl rfl)
 obtain⟨fu0,hf0⟩:=h0
 have hc0:DataW.trod enc Tryd.prog W 0 (fun _=>true) true fu0 22 [.slice a0 lc0 cap0]=some (d0,p0):=hf0
 obtain⟨b0,cb0,l0,e0,hb0,n0⟩:=frames_opn hc0
 simp only[Value.slice.injEq] at e0
 obtain⟨rfl,rfl,rfl⟩:=e0
 refine (walk W (longer_of hL) a0 cap0 l0 hb0 n0).mono fun e W' ⟨he,bel⟩ => ?_
 subst he
 exact⟨_,rfl,_,_,_,[],_,[],hW',trodAll_mk1 (shut_bool Tryd.underlying4 _),(trodAll_cons_mk (Below.trod laidOut (by kernel_rfl) (of_decide_eq_true (by kernel_rfl)) k0 bel lt0) trodAll_mk0),rfl,bel.frame _,fun h=>by cases h⟩
theorem over:Rows.orderPlacesRow.holds Tryd.pinned (OpenSpec.ofChange Rows.orderPlacesSpec) :=
 OpenClaim.holds_of_wide 4 Tryd.f4 rfl rfl rfl rfl rfl rfl rfl ⟨rfl,rfl,rfl,rfl,rfl⟩ rfl rfl rfl rfl rfl (by kernel_rfl) Tryd.func4 (by kernel_rfl)
  (of_decide_eq_true (by kernel_rfl)) (by unfold Func.isWrapper;first | (rw[if_pos (by decide +kernel)];kernel_rfl) | (rw[if_neg (by decide +kernel)];exact⟨rfl,rfl⟩))
  (fun os started H enc _=>lifted os started H enc)
theorem plain (f : FuncId) (fn : Func) (hf : Tryd.pinned.checked.prog.funcNamed "omnibus/omnibuslaw10.OrderPlaces" = some f) (hfn : Tryd.pinned.checked.prog.funcs[f]? = some fn) :
    true=Tryd.pinned.checked.prog.looks []/\∀ (j:Nat) t,fn.params[j]? = some t->Tryd.pinned.checked.prog.wantsStandIn t=false:=by
 obtain rfl : f = 4 := Option.some.inj ((show Tryd.prog.funcNamed "omnibus/omnibuslaw10.OrderPlaces" = some 4 by kernel_rfl).symm.trans hf) |>.symm
 obtain rfl:fn=Tryd.f4:=(Option.some.inj (Tryd.func4.symm.trans hfn)).symm
 refine⟨by kernel_rfl,fun j t ht => ?_⟩
 rw[Tryd.params4] at ht
 have hm:t∈[22]:=by have:=Array.mem_of_getElem? ht;simp at this ⊢;omega
 have hall:([22].all fun u => !Tryd.prog.wantsStandIn u)=true:=by kernel_rfl
 exact (show Tryd.prog.wantsStandIn t=false by simpa using List.all_eq_true.1 hall t hm)
theorem proved:Rows.OrderPlacesCardSaid :=
 Claim7.holds_tied_plain_at .later [] _ _ _ _ over (fun _ h=>by cases h) (by kernel_rfl) (fun _ h=>by cases h) orderPlaces_row_tie rfl ⟨rfl,rfl⟩ (by kernel_rfl) rfl plain (by kernel_rfl)
#print axioms proved
end Go.Proofs.YtkofdbccdfpllaaDoor.orderPlaces
