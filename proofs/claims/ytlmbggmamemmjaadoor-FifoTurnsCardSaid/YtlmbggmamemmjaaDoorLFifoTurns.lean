/- For all frames and every number ahead the law FifoTurns answers true and leaves its arguments as they were; the package's table of longer sizes is tied to the program's text. No conditions. -/
import Derived.Test.YtlmbggmamemmjaaDoorRows
import Derived.Test.YtlmbggmamemmjaaDoorCards
import Derived.Test.YtlmbggmamemmjaaDoorTie
import Derived.Test.YtlmbggmamemmjaaDoorFiA
import Derived.Test.YtlmbggmamemmjaaDoorFiT
import Derived.Test.YtlmbggmamemmjaaDoorFiS
import Derived.Test.YtlmbggmamemmjaaDoorOrO
import Derived.Test.YtlmbggmamemmjaaDoorGe
import Derived.Test.YtlmbggmamemmjaaDoorGa
import Derived.WalkKit
import Derived.ProofKit
import Derived.OpenShut
import Derived.ShutString
import Derived.ChangeOld
import Derived.Below
import Derived.Carry
import Derived.Lib.SmallJoins
import Derived.Deep.RegionWith
import Derived.Deep.RegionHeld3
import Derived.LaidMore
import Derived.LaidLaws
import Derived.Stop.Joined
import Derived.SevenTiedAt
set_option maxHeartbeats 8000000
set_option maxRecDepth 100000
namespace Go.Proofs.YtlmbggmamemmjaaDoor.fifoTurns
open Go.ChangeShapes Go.WideShapes Go.ChangeAt Go.RowKit Go.Joins
set_option linter.unusedVariables false
set_option linter.unusedSimpArgs false
theorem own:ownKnob Tryd.prog.godebug=none:=by kernel_rfl
theorem laidOut:laidOutB Tryd.prog=true:=by kernel_rfl
theorem walk (w:World) (hK:Longer w) (a0:Option Addr) (cap0:Nat) (l0:List (Hd × List Nat)) (h0:FrsAt w a0 cap0 l0) (n0:a0=none->cap0=0) (a1:Int) (w1:(Lit.int .u8 a1).wf=true) :
    Calls Tryd.prog 5 #[.slice a0 l0.length cap0,.int .u8 a1] w fun e w'=>e = .returned (.bool true)/\Nb w w':=by
 have HK:=Lib.hid hK
 have HFR:=Lib.hid h0.rd
 have AL:=Lib.hid (fun w' (n:Nb w w')=>alive16_any w' (hK.below n))
 have hL0:=h0.len
 have ha0:0<=a1/\a1<=255:=by simpa [Lit.wf,IntKind.min,IntKind.max,IntKind.signed,IntKind.bits] using w1
 clear hK h0 n0 w1
 by_cases hbig:200 < l0.length
 ·have d0:decide ((200:Int) < (l0.length:Int))=true:=decide_eq_true (by omega)
  clear hbig
  go_enter Tryd.func5,Tryd.ntmps5
  go_wp2_with fail
  refine (AL.out _ Nb.rfl).mono ?_
  rintro e w1 ⟨rfl,n1⟩
  have K1:=Lib.hid n1
  clear n1
  go_wp2
  go_ret
  exact⟨rfl,K1.out⟩
 have d0:decide ((200:Int) < (l0.length:Int))=false:=decide_eq_false (by omega)
 have hle:l0.length<=200:=by omega
 clear hbig
 obtain⟨kk,hkk⟩:∃ kk:Nat,a1%5=(kk:Int):=⟨(a1%5).toNat,by omega⟩
 have hk5:kk < 5:=by omega
 have hkt:Int.tmod a1 5=(kk:Int):=by rw[Int.tmod_eq_emod_of_nonneg (by omega)];exact hkk
 go_enter Tryd.func5,Tryd.ntmps5
 go_wp2_with fail
 refine (AL.out _ Nb.rfl).mono ?_
 rintro e w1 ⟨rfl,n1⟩
 have K1:=Lib.hid n1
 clear n1
 go_wp2_with fail
 refine (newF_any (kk+1) (by omega) _).mono ?_
 rintro e w2 ⟨R,F,rfl,g1,g2,g3⟩
 have N2:=Lib.hid (show FiX w w2 _ ⟨kk+1,0,[]⟩ (TwoS (.slice none 0 0) (.slice none 0 0) (fun _=>False)) from (FiX.new g1 g2 g3 K1.out).less (fun k hk=>by simp[TwoS,Value.ownBlock] at hk))
 generalize Value.pointer (some ⟨R,0,none⟩)=vq at *
 clear g1 g2 g3
 go_wp2
 go_loopw [8,9,32] (fun mv ov ix wr=>∃ (k:Nat) (M O:List FrI) (P:Nat->Prop) (q:Fi),k<=l0.length/\ix = .int .i64 k/\M.length<=k/\O.length<=k/\TwoR w wr mv ov M O P/\StT kk (M.map Prod.fst) (O.map Prod.fst) q/\FiX w wr vq q (TwoS mv ov P)) (fun _ _ ix _=>l0.length - (intOf ix).toNat)
 case atStart=>exact⟨0,[],[],fun _=>False,⟨kk+1,0,[]⟩,Nat.zero_le _,rfl,Nat.le_refl _,Nat.le_refl _,TwoR.new w _,⟨rfl,rfl,Nat.zero_le _,rfl⟩,N2.out⟩
 case round =>
  obtain⟨k,M,O,P,q,hk,rfl,hMk,hOk,ht,hst,hN⟩:=hrel
  have N:=Lib.hid hN
  have T:=Lib.hid ht
  have ST:=Lib.hid hst
  clear hN ht hst N2 hkk
  by_cases hlt:k < l0.length
  ·have hlt':decide ((k:Int) < (l0.length:Int))=true:=decide_eq_true (by omega)
   obtain⟨⟨⟨Kf,If,Xf,Rf,Bf,Ef,Sf,Df,Vf,Af⟩,lf⟩,hx⟩:∃ x,l0.getD k dF=x:=⟨_,rfl⟩
   obtain⟨bf,of,rfl,-⟩:=HFR.out.hcells (by omega)
   obtain⟨pf,qf,hat⟩:=HFR.out.at hlt hx
   have AT:=Lib.hid hat
   obtain⟨⟨v0,v1,v2,v3,v4,v5,v6,v7,v8,v9,v10⟩,_⟩:=AT.out wr (N.out.nb)
   clear hat
   have hbw:=(AT.out w Nb.rfl).2
   have HBW:=Lib.hid hbw
   obtain⟨QB,hQ⟩:∃ Q,Q=wr.heap.size:=⟨_,rfl⟩
   obtain⟨uB,hu⟩:∃ u,u=wr.alloc (.cells #[.int .i64 Kf,.int .u32 If,.bool Xf,.bool Rf,.bool Bf,.bool Ef,.bool Sf,.int .u8 Df,.int .u8 Vf,.int .u32 Af,.slice pf lf.length qf] 36):=⟨_,rfl⟩
   have HU:=Lib.hid hu
   have HQ:=Lib.hid hQ
   have NU:=Lib.hid (show FiX w uB vq q (fun k=>TwoS u8 u9 P k\/k=QB) by rw[hu,hQ];exact N.out.addB _ _)
   have BU:=Lib.hid (show Blk uB QB _ _ by rw[hu,hQ];exact Blk.new _ _ _)
   have TU:=Lib.hid (show TwoR w uB u8 u9 M O P by rw[hu];exact T.out.nb (Nb.rfl.al _))
   have hp:=NU.out.push ⟨Kf,If,Xf,Rf,Bf,Ef,Sf,Df,Vf,Af⟩ pf qf lf (HK.out.below NU.out.nb) (AT.out _ NU.out.nb).2 (by rw[ST.out.over];exact Nat.zero_le _)
   have HMK:=Lib.hid (show M.length<=200/\M.length<=k/\O.length<=200/\O.length<=k by omega)
   clear hbw hMk hOk
   cases hok:okF ⟨Kf,If,Xf,Rf,Bf,Ef,Sf,Df,Vf,Af⟩ lf with
   | false =>
     rw[(push_bad hok).1,(push_bad hok).2,show checkN ⟨Kf,If,Xf,Rf,Bf,Ef,Sf,Df,Vf,Af⟩ lf=2 by simp[checkN,hok]] at hp
     simp only[Hd.cs] at hp
     have HP:=Lib.hid hp
     clear hp hok hx hu hQ N AT T
     go_wp2_with fail
     rw[<- HU.out]
     refine HP.out.mono ?_
     rintro e w3 ⟨G,rfl,gk,gX,_,hn⟩
     have N3:=Lib.hid (hn.less (Y:=TwoS u8 u9 P) (fun k hk => .inl hk))
     have T3:=Lib.hid (TU.out.keep gk (fun k hk=>gX k (.inl hk)))
     clear hn gk gX HP BU NU HU TU
     go_wp2
     go_roundw
     case rel=>exact⟨k+1,M,O,P,q,by omega,by go_num,by have:=HMK.out;omega,by have:=HMK.out;omega,T3.out,ST.out,N3.out⟩
     case measure=>simp[intOf];omega
   | true =>
     rw[(ST.out.pushB hok).1,(ST.out.pushB hok).2,show checkN ⟨Kf,If,Xf,Rf,Bf,Ef,Sf,Df,Vf,Af⟩ lf=0 by simp[checkN,hok]] at hp
     simp only[Hd.cs] at hp
     have HP:=Lib.hid hp
     clear hp hok hx hu hQ N AT T
     go_wp2_with fail
     rw[<- HU.out]
     refine HP.out.mono ?_
     rintro e w3 ⟨G,rfl,gk,gX,_,hn⟩
     have N3:=Lib.hid hn
     have T3:=Lib.hid (TU.out.keep gk (fun k hk=>gX k (.inl hk)))
     obtain⟨c0,c1,c2,c3,c4,c5,c6,c7,c8,c9,c10⟩:=(BU.out.keep gk (gX QB (.inr rfl))).c11
     rw[HQ.out] at c0 c1 c2 c3 c4 c5 c6 c7 c8 c9 c10
     clear hn gk gX HP BU NU HU TU
     have B11:=Lib.hid (Blk.new w3 #[.int .i64 Kf,.int .u32 If,.bool Xf,.bool Rf,.bool Bf,.bool Ef,.bool Sf,.int .u8 Df,.int .u8 Vf,.int .u32 Af,.slice pf lf.length qf] 36)
     go_wp2_with (at_builtin;refine wpList_appF _ rfl (.tmp 44) (.tmp 46) rfl _ M rfl (T3.out.mo.nb (Nb.rfl.al _)) w3.heap.size ⟨Kf,If,Xf,Rf,Bf,Ef,Sf,Df,Vf,Af⟩ lf pf qf rfl (fun i hi=>(B11.out.cell i).trans (by rw[List.getElem?_toArray])) (by have:=HMK.out;omega) ?_)
     intro mv' w5 ho5 hk5 hf5
     have T5:=Lib.hid ((T3.out.nb (Nb.rfl.al (.cells #[.int .i64 Kf,.int .u32 If,.bool Xf,.bool Rf,.bool Bf,.bool Ef,.bool Sf,.int .u8 Df,.int .u8 Vf,.int .u32 Af,.slice pf lf.length qf] 36))).appM (by have:=N3.out.nb.size;rw[World.size_alloc];omega) ho5 hk5 (fun g hg=>by rcases hf5 g hg with h | h;exact .inl h;exact .inr (by rw[World.size_alloc];exact h)) (RowF.one (f:=⟨Kf,If,Xf,Rf,Bf,Ef,Sf,Df,Vf,Af⟩) HBW.out))
     have N5:=Lib.hid (show FiX w w5 vq _ (TwoS mv' u9 P) from (N3.out.row (fun g hg=>⟨.inl (.inl hg),(T3.out.mg g hg).1⟩) hk5 hf5 (fun g hg=>ho5.lt hg)).less (fun k hk=>by
      rcases hk with h | h | h
      ·exact .inr h
      ·exact .inl (.inl (.inr (.inl h)))
      ·exact .inl (.inl (.inr (.inr h)))))
     have LE:=N5.out.len
     clear ho5 hk5 hf5 N3 T3 B11 c0 c1 c2 c3 c4 c5 c6 c7 c8 c9 c10
     by_cases hl:q.its.length < kk
     ·have SS:=Lib.hid (ST.out.stay (⟨Kf,If,Xf,Rf,Bf,Ef,Sf,Df,Vf,Af⟩,lf) hl)
      obtain⟨n,hn⟩:∃ n,(q.its++[((⟨Kf,If,Xf,Rf,Bf,Ef,Sf,Df,Vf,Af⟩,lf):Hd × List Nat)]).length=n:=⟨_,rfl⟩
      rw[hn] at LE
      have hn2:n<=kk:=by rw[<- hn,List.length_append,List.length_singleton];omega
      have d3:decide ((kk:Int) < (n:Int))=false:=decide_eq_false (by omega)
      have d4:decide (kk < n)=false:=decide_eq_false (by omega)
      have LEH:=Lib.hid LE
      clear hn LE
      go_wp2_with fail
      refine LEH.out.mono ?_
      rintro e w6 ⟨rfl,n6⟩
      have N6:=Lib.hid (N5.out.keep n6)
      have T6:=Lib.hid (T5.out.nb n6)
      clear n6 N5 T5
      go_wp2
      go_roundw
      case rel=>exact⟨k+1,_,O,P,_,by omega,by go_num,by rw[List.length_append,List.length_singleton];have:=HMK.out;omega,by have:=HMK.out;omega,T6.out,by rw[List.map_append];exact SS.out,N6.out⟩
      case measure=>simp[intOf];omega
     ·obtain⟨hs1,hs2⟩:=ST.out.go (⟨Kf,If,Xf,Rf,Bf,Ef,Sf,Df,Vf,Af⟩,lf) (by have:=ST.out.its;omega)
      have SS:=Lib.hid hs1
      have PO:=N5.out.pop
      obtain⟨⟨⟨Kx,Ix,Xx,Rx,Bx,Ex,Sx,Dx,Vx,Ax⟩,lx⟩,hx⟩:∃ x,(⟨kk+1,0,q.its++[(⟨Kf,If,Xf,Rf,Bf,Ef,Sf,Df,Vf,Af⟩,lf)]⟩:Fi).head=x:=⟨_,rfl⟩
      obtain⟨n,hn⟩:∃ n,(q.its++[((⟨Kf,If,Xf,Rf,Bf,Ef,Sf,Df,Vf,Af⟩,lf):Hd × List Nat)]).length=n:=⟨_,rfl⟩
      rw[hn] at LE
      have hn2:kk < n:=by rw[<- hn,List.length_append,List.length_singleton];omega
      have d3:decide ((kk:Int) < (n:Int))=true:=decide_eq_true (by omega)
      have d4:decide (kk < n)=true:=decide_eq_true (by omega)
      have LEH:=Lib.hid LE
      have PO:=Lib.hid (fun w' (n:Nb w5 w')=>(N5.out.keep n).pop)
      rw[hs2,hx] at PO
      simp only[Hd.cs] at PO
      rw[hx] at SS
      clear hn LE hs1 hs2 hx
      go_wp2_with fail
      refine LEH.out.mono ?_
      rintro e w6 ⟨rfl,n6⟩
      have T6:=Lib.hid (T5.out.nb n6)
      have S6:=Lib.hid (N5.out.nb.tr n6)
      have PO6:=Lib.hid (PO.out w6 n6)
      clear n6 N5 T5 PO
      go_wp2_with fail
      refine PO6.out.mono ?_
      rintro e w7 ⟨a7,c7,P7,G,rfl,d7,gp,gk,gX,gw,hn⟩
      have N7:=Lib.hid hn
      have T7:=Lib.hid (T6.out.keep gk gX)
      have D7:=Lib.hid d7
      have Q7:=Lib.hid (show ∀ k,P7 k->w.heap.size<=k/\k < w7.heap.size/\mv'.ownBlock≠some k/\u9.ownBlock≠some k from fun k hk=>⟨Nat.le_trans S6.out.size (gp k hk).1,(gp k hk).2,fun h=>by have:=(T6.out.lt k (.inl h)).2;have:=(gp k hk).1;omega,fun h=>by have:=(T6.out.lt k (.inr (.inl h))).2;have:=(gp k hk).1;omega⟩)
      have W7:=Lib.hid N7.out.nb.size
      have hqq:w7.heap.size=w7.heap.size:=rfl
      have B12:=Lib.hid (Blk.new (w7.alloc (.cells #[.int .i64 Kx,.int .u32 Ix,.bool Xx,.bool Rx,.bool Bx,.bool Ex,.bool Sx,.int .u8 Dx,.int .u8 Vx,.int .u32 Ax,.slice a7 lx.length c7] 36)) #[.int .i64 Kx,.int .u32 Ix,.bool Xx,.bool Rx,.bool Bx,.bool Ex,.bool Sx,.int .u8 Dx,.int .u8 Vx,.int .u32 Ax,.slice a7 lx.length c7] 36)
      clear hn gk gX gw gp d7 PO6 T6 hqq
      go_wp2_with (at_builtin;refine wpList_appF _ rfl (.tmp 61) (.tmp 63) rfl _ O rfl (T7.out.oo.nb ((Nb.rfl.al _).al _)) _ ⟨Kx,Ix,Xx,Rx,Bx,Ex,Sx,Dx,Vx,Ax⟩ lx a7 c7 rfl ?_ (by have:=HMK.out;omega) ?_)
      ·have qq:=B12.out
       rw[World.size_alloc] at qq
       exact fun i hi=>(qq.cell i).trans (by rw[List.getElem?_toArray])
      intro ov' w9 ho9 hk9 hf9
      have T9:=Lib.hid ((T7.out.nb ((Nb.rfl.al (.cells #[.int .i64 Kx,.int .u32 Ix,.bool Xx,.bool Rx,.bool Bx,.bool Ex,.bool Sx,.int .u8 Dx,.int .u8 Vx,.int .u32 Ax,.slice a7 lx.length c7] 36)).al (.cells #[.int .i64 Kx,.int .u32 Ix,.bool Xx,.bool Rx,.bool Bx,.bool Ex,.bool Sx,.int .u8 Dx,.int .u8 Vx,.int .u32 Ax,.slice a7 lx.length c7] 36))).appO (by have:=W7.out;rw[World.size_alloc,World.size_alloc];omega) ho9 hk9 (fun g hg=>by rcases hf9 g hg with h | h;exact .inl h;exact .inr (by rw[World.size_alloc,World.size_alloc];omega)) (RowF.one (f:=⟨Kx,Ix,Xx,Rx,Bx,Ex,Sx,Dx,Vx,Ax⟩) (D7.out.nb ((Nb.rfl.al _).al _))) (fun k hk=>⟨(Q7.out k hk).1,by have:=(Q7.out k hk).2.1;rw[World.size_alloc,World.size_alloc];omega,(Q7.out k hk).2.2⟩))
      have N9:=Lib.hid (show FiX w w9 vq _ (TwoS mv' ov' (fun k=>P k\/P7 k)) from ((N7.out.keep (Nb.rfl.al (.cells #[.int .i64 Kx,.int .u32 Ix,.bool Xx,.bool Rx,.bool Bx,.bool Ex,.bool Sx,.int .u8 Dx,.int .u8 Vx,.int .u32 Ax,.slice a7 lx.length c7] 36))).row (mv:=u9) (fun g hg=>⟨.inl (.inr (.inl hg)),(T7.out.og g hg).1⟩) hk9 (fun g hg=>by rcases hf9 g hg with h | h;exact .inl h;exact .inr (by rw[World.size_alloc];omega)) (fun g hg=>ho9.lt hg)).less (fun k hk=>by
       rcases hk with h | h | h | h
       ·exact .inl (.inl (.inl h))
       ·exact .inr h
       ·exact .inl (.inl (.inr (.inr h)))
       ·exact .inl (.inr h)))
      clear ho9 hk9 hf9 N7 T7 D7 Q7 W7 B12
      go_wp2
      go_roundw
      case rel=>exact⟨k+1,_,_,_,_,by omega,by go_num,by rw[List.length_append,List.length_singleton];have:=HMK.out;omega,by rw[List.length_append,List.length_singleton];have:=HMK.out;omega,T9.out,by rw[List.map_append,List.map_append];exact SS.out,N9.out⟩
      case measure=>simp[intOf];omega
  ·have hlt':decide ((k:Int) < (l0.length:Int))=false:=decide_eq_false (by omega)
   have OVR:=Lib.hid N.out.over
   rw[ST.out.over] at OVR
   have HO:=Lib.hid (show O.length<=200/\q.its.length<=64 by have:=ST.out.its;omega)
   clear hMk hOk
   go_wp2_with fail
   refine OVR.out.mono ?_
   rintro e w3 ⟨rfl,n3⟩
   have N3:=Lib.hid (N.out.keep n3)
   have T3:=Lib.hid (T.out.nb n3)
   clear n3 N T OVR
   go_wp2_with fail
   refine N3.out.all.mono ?_
   rintro e w4 ⟨aA,cA,P3,rfl,hfr,hP3,n4,hN4,hnn⟩
   obtain⟨M',m1,m2,m3,m4⟩:=hfr.cells
   have hml:q.its.length=M'.length:=by rw[<- m1,List.length_map]
   have T4:=Lib.hid (T3.out.nb n4)
   have M1:=Lib.hid m1
   have M2:=Lib.hid m2
   have M3:=Lib.hid m3
   have M4:=Lib.hid (show aA=none->M'.length=0/\cA=0 from fun h=>⟨m4 h,hnn h⟩)
   have W3:=Lib.hid (show ∀ k,P3 k->w.heap.size<=k/\k < w4.heap.size/\u8.ownBlock≠some k/\u9.ownBlock≠some k from fun k hk=>⟨Nat.le_trans N3.out.nb.size (hP3 k hk).1,(hP3 k hk).2,fun h=>by have:=(T3.out.lt k (.inl h)).2;have:=(hP3 k hk).1;omega,fun h=>by have:=(T3.out.lt k (.inr (.inl h))).2;have:=(hP3 k hk).1;omega⟩)
   have NB4:=Lib.hid (N3.out.nb.tr n4)
   have HML:=Lib.hid hml
   clear hfr hP3 n4 hN4 hnn m1 m2 m3 m4 N3 T3
   rw[hml]
   clear hml
   go_wp2_with (at_builtin;refine wpList_want (by rfl) ?_;refine wpList_appFs _ rfl (.tmp 74) (.tmp 76) rfl _ O rfl T4.out.oo _ _ _ M' rfl rfl M3.out (RowF.one' M2.out) M4.out (by have:=HO.out;have:=HML.out;omega) ?_)
   intro ov' w5 ho5 hk5 hf5
   have T5:=Lib.hid (T4.out.appO NB4.out.size ho5 hk5 hf5 M2.out W3.out)
   have nb5:Nb w w5:=NB4.out.trans (hk5.toBelow NB4.out.size (fun g hg=>(T4.out.og g hg).1))
   have NB5:=Lib.hid nb5
   have HLL:=Lib.hid (show (O++M').map Prod.fst=M.map Prod.fst by rw[List.map_append,M1.out,ST.out.all])
   clear ho5 hk5 hf5 nb5 T4 W3 NB4
   obtain⟨ao,co,rfl,-,-,-,-⟩:=T5.out.oo.shape
   obtain⟨am,cm,rfl,-,-,-,-⟩:=T5.out.mo.shape
   have e1:=(T5.out.oo.rd (T5.out.or.imp (fun _ _ _ d=>d.1))).2
   have e2:=(T5.out.mo.rd (T5.out.mr.imp (fun _ _ _ d=>d.below NB5.out))).2
   rw[HLL.out] at e1
   have hq:M.length=O.length+M'.length:=by
    have:=congrArg List.length HLL.out
    rw[List.length_map,List.length_map,List.length_append] at this
    omega
   have sm:=sames16_any (M.map Prod.fst) ao am co cm w5 e1 e2
   rw[List.length_map] at sm
   have SM:=Lib.hid sm
   have HQ:=Lib.hid hq
   clear e1 e2 hq sm
   go_wp2_with fail
   rw[<- HQ.out]
   refine SM.out.mono ?_
   rintro e w6 ⟨rfl,n6⟩
   have K6:=Lib.hid (NB5.out.tr n6)
   clear n6
   go_wp2
   go_ret
   exact⟨rfl,K6.out⟩
theorem door_met (os:Os) (args:Array Value):laidMetH Tryd.prog Rows.fifoTurnsRow.laid ((World.doorLaid Tryd.prog 14 os).forCall (fun _ _=>0) ⟨#[],args,[]⟩).memory :=
 laidMetH_of_parts3 (fuel:=8) (laidMet_of_run' 8 (by kernel_rfl) (by kernel_rfl)) (by kernel_rfl) (by kernel_rfl)
theorem lifted (os:Os) (started:os.Started) (H:Type) (enc:TypeId × Value->H) :
    ReturnsInHanded {} Tryd.checked os 5 .any (fun w args=>(Rows.fifoTurnsSpec.pre enc Tryd.prog Tryd.f5 [] false w args/\laidMetH Tryd.prog Rows.fifoTurnsRow.laid w)/\sizedMet enc Tryd.prog Tryd.f5 (OpenSpec.ofChange Rows.fifoTurnsSpec) false w args)
     (Rows.fifoTurnsSpec.post enc Tryd.prog Tryd.f5 false true false false):=by
 refine returnsInHanded_of_change_and (C:=Tryd.checked) (X:=fun w _=>laidMetH Tryd.prog Rows.fifoTurnsRow.laid w) (fun _ _ _ hh h=>h.of_heap hh) own started (by kernel_rfl) Tryd.func5
  (ChangeSpec.witness_shaped (enc:=enc) (C:=Tryd.checked) (os:=os) (X:=fun w _=>laidMetH Tryd.prog Rows.fifoTurnsRow.laid w) false (World.doorLaid Tryd.prog 14 os) #[.slice none 0 0,.int .u8 0] 8 rfl (World.shaped_of_RefB (by kernel_rfl) (by kernel_rfl)) (by kernel_rfl) (by kernel_rfl) (by kernel_rfl) (door_met os _)) ?_
 intro W base args ds gs before hval0 hW _ hR hL _
 have hval:∀ (j:Nat) t v,Tryd.f5.params[j]? = some t->args[j]? = some v->Value.okWide Tryd.prog W .any base t v:=hval0
 have hW':=hW
 obtain⟨p,q,hA0,hV,rfl,hfz,hnd⟩:=hW
 have hA:DataW.TrodAll enc Tryd.prog W 0 (fun _=>true) true Tryd.f5.params.toList args.toList ds p:=hA0
 rw[Tryd.params5] at hA hval
 obtain⟨v0,vs0,d0,ds0,p0,q0,hargs,rfl,rfl,h0,r0⟩:=trodAll_cons hA
 obtain⟨v1,vs1,d1,ds1,p1,q1,rfl,rfl,rfl,h1,r1⟩:=trodAll_cons r0
 obtain⟨rfl,rfl,rfl⟩:=trodAll_nil r1
 obtain rfl:args=#[v0,v1]:=by cases args;simp_all
 obtain⟨rfl,rfl⟩:=trodVars_none hV
 have k0:=h0
 have lt0:∀ x∈p0,x.block < W.heap.size:=by obtain⟨m,hm⟩:=k0;exact DataW.trod_lt m _ _ _ hm
 have k1:=h1
 have lt1:∀ x∈p1,x.block < W.heap.size:=by obtain⟨m,hm⟩:=k1;exact DataW.trod_lt m _ _ _ hm
 clear hA0
 obtain⟨a0,lc0,cap0,rfl⟩:=okWide_slice Tryd.underlying30 (hval 0 30 v0 rfl rfl)
 obtain⟨fu0,hf0⟩:=h0
 have hc0:DataW.trod enc Tryd.prog W 0 (fun _=>true) true fu0 30 [.slice a0 lc0 cap0]=some (d0,p0):=hf0
 obtain⟨b0,cb0,l0,e0,hb0,n0⟩:=frames_opn hc0
 simp only[Value.slice.injEq] at e0
 obtain⟨rfl,rfl,rfl⟩:=e0
 obtain⟨a1,rfl,rfl,rfl,w1⟩:=open_int Tryd.underlying5 (hval 1 5 v1 rfl rfl) h1
 refine (walk W (longer_of hL) a0 cap0 l0 hb0 n0 a1 w1).mono fun e W' ⟨he,bel⟩ => ?_
 subst he
 exact⟨_,rfl,_,_,_,[],_,[],hW',trodAll_mk1 (shut_bool Tryd.underlying4 _),(trodAll_cons_mk (Below.trod laidOut (by kernel_rfl) (of_decide_eq_true (by kernel_rfl)) k0 bel lt0) (trodAll_cons_mk (Below.trod laidOut (by kernel_rfl) (of_decide_eq_true (by kernel_rfl)) k1 bel lt1) trodAll_mk0)),rfl,bel.frame _,fun h=>by cases h⟩
theorem over:Rows.fifoTurnsRow.holds Tryd.pinned (OpenSpec.ofChange Rows.fifoTurnsSpec) :=
 OpenClaim.holds_of_wide 5 Tryd.f5 rfl rfl rfl rfl rfl rfl rfl ⟨rfl,rfl,rfl,rfl,rfl⟩ rfl rfl rfl rfl rfl (by kernel_rfl) Tryd.func5 (by kernel_rfl)
  (of_decide_eq_true (by kernel_rfl)) (by unfold Func.isWrapper;first | (rw[if_pos (by decide +kernel)];kernel_rfl) | (rw[if_neg (by decide +kernel)];exact⟨rfl,rfl⟩))
  (fun os started H enc _=>lifted os started H enc)
theorem plain (f : FuncId) (fn : Func) (hf : Tryd.pinned.checked.prog.funcNamed "omnibus/omnibuslaw16.FifoTurns" = some f) (hfn : Tryd.pinned.checked.prog.funcs[f]? = some fn) :
    false=Tryd.pinned.checked.prog.looks []/\∀ (j:Nat) t,fn.params[j]? = some t->Tryd.pinned.checked.prog.wantsStandIn t=false:=by
 obtain rfl : f = 5 := Option.some.inj ((show Tryd.prog.funcNamed "omnibus/omnibuslaw16.FifoTurns" = some 5 by kernel_rfl).symm.trans hf) |>.symm
 obtain rfl:fn=Tryd.f5:=(Option.some.inj (Tryd.func5.symm.trans hfn)).symm
 refine⟨by kernel_rfl,fun j t ht => ?_⟩
 rw[Tryd.params5] at ht
 have hm:t∈[30,5]:=by have:=Array.mem_of_getElem? ht;simp at this ⊢;omega
 have hall:([30,5].all fun u => !Tryd.prog.wantsStandIn u)=true:=by kernel_rfl
 exact (show Tryd.prog.wantsStandIn t=false by simpa using List.all_eq_true.1 hall t hm)
theorem proved:Rows.FifoTurnsCardSaid :=
 Claim7.holds_tied_plain_at .later [] _ _ _ _ over (fun _ h=>by cases h) (by kernel_rfl) (fun _ h=>by cases h) fifoTurns_row_tie rfl ⟨rfl,rfl⟩ (by kernel_rfl) rfl plain (by kernel_rfl)
#print axioms proved
end Go.Proofs.YtlmbggmamemmjaaDoor.fifoTurns
