/- The document's own parts of an XL frame, and more. Conditions: as each says. -/
import Derived.Test.YtplbmlpdefpplaaGreatDoorGq
set_option maxHeartbeats 3200000
set_option maxRecDepth 100000
namespace Go.Proofs.YtplbmlpdefpplaaGreatDoor
set_option linter.unusedVariables false
set_option linter.unusedSimpArgs false
open Go.RowKit
theorem zbJ (n size:Nat) (w:World) (hn:n < 2^64) (hs:size<=64) :
    Calls Tryz.prog 83 #[.int .u64 n,.int .i64 size] w fun e w'=>(∃a c,e = .returned (.slice a (zc n size).length c)/\zf w w' (.slice a (zc n size).length c) (zc n size))/\Nb w w':=by
 have hm:∀w,(Instr.makeSlice 35 (.int .i64 (size:Int)) (.int .i64 (size:Int))).run Tryz.prog w=_:=fun w=>z1Z w size (by omega)
 have h0:=z04.full w size (by omega)
 have HO:=zH h0
 have HN:=zH hn
 clear h0 hn
 go_enter Tryz.func83,Tryz.ntmps83
 go_wp2
 go_loopw [0,6] (fun m i wr=>∃k:Nat,k<=size/\i = .int .i64 ((k:Int) - 1)/\m = .int .u64 ((n / 2^(size - k):Nat):Int)/\z04 wr (.slice (some ⟨w.heap.size,0,none⟩) size size) (List.replicate k 0++(zc n size).drop k)/\Nb w wr) (fun _ i _=>(intOf i+1).toNat)
 case atStart =>
  refine⟨size,Nat.le_refl _,rfl,by simp,?_,Nb.rfl.al _⟩
  rw[List.drop_of_length_le (by rw[zb];exact Nat.le_refl _),List.append_nil]
  exact HO.out
 case round =>
  obtain⟨k,hk,rfl,rfl,ho,hnb⟩:=hrel
  cases k with
  | succ k =>
    have hlen:(List.replicate (k+1) 0++(zc n size).drop (k+1)).length=size:=by simp[zb];omega
    have hf:wr.frozen? ⟨w.heap.size,k,none⟩=false:=ho.frozen rfl _
    have hc:wr.cell? ⟨w.heap.size,k,none⟩=some (.int .u8 ((0:Nat):Int)):=by
     obtain⟨a,cp,hv,hbs,_⟩:=ho.bs
     obtain⟨b,o,rfl,hcl⟩:=hbs.hcells (by omega)
     simp only[Value.slice.injEq,Option.some.injEq,Addr.mk.injEq,and_true]at hv
     obtain⟨⟨rfl,rfl⟩,_,rfl⟩:=hv
     have h3:=hcl k (by omega)
     rw[Nat.zero_add]at h3
     rw[h3]
     simp[List.getD,List.getElem?_append_left,List.getElem?_replicate]
    have hq:n / 2^(size - (k+1)) < 2^64:=Nat.lt_of_le_of_lt (Nat.div_le_self _ _) HN.out
    have hset:=ho.setByte (g:=w.heap.size) rfl k (by omega) (n / 2^(size - (k+1))%2) (by omega)
    have e1:(List.replicate (k+1) 0++(zc n size).drop (k+1)).set k (n / 2^(size - (k+1))%2)=List.replicate k 0++(zc n size).drop k:=by
     rw[List.drop_eq_getElem_cons (i:=k) (by rw[zb];omega),List.replicate_succ',List.append_assoc,List.set_append_right _ _ (by simp)]
     simp[zc,show size - 1 - k=size - (k+1)from by omega]
    rw[e1]at hset
    have e2:n / 2^(size - (k+1)) / 2=n / 2^(size - k):=by rw[Nat.div_div_eq_div_mul,<- Nat.pow_succ,show(size - (k+1)).succ=size - k from by omega]
    have HS:=zH hset
    have HE:=zH e2
    have d1:(k:Int)+1 - 1=k:=by omega
    clear hset e1 e2 ho hlen
    rw[show((k+1:Nat):Int) - 1=(k:Int)from by omega]
    clear d1
    generalize n / 2^(size - (k+1))=q at *
    have dq:((q%2:Nat):Int)=((q:Int)%2):=by omega
    have DQ:=zH dq
    clear dq
    go_wp2
    go_roundw
    case rel =>
     refine⟨k,by omega,rfl,?_,?_,hnb.st (by simp) _⟩
     ·rw[<- HE.out];go_num
     ·rw[<- DQ.out];exact HS.out
    case measure=>simp[intOf]
  | zero =>
    have hl:(List.replicate 0 0++(zc n size).drop 0)=zc n size:=by simp
    rw[hl]at ho
    have hfr:zf w wr (.slice (some ⟨w.heap.size,0,none⟩) (zc n size).length size) (zc n size):=by
     refine⟨by rw[zb];exact ho,fun g hg => ?_⟩
     simp[Value.ownBlock]at hg
     omega
    have HF:=zH hfr
    clear ho hl hfr
    go_wp2
    go_ret
    exact⟨⟨_,_,by rw[zb];rfl,HF.out⟩,hnb⟩
theorem z4n (i:Nat) (w:World) (hi:i < 4294967296) :
    Calls Tryz.prog 57 #[.int .u32 i] w fun e w'=>(∃a c,e = .returned (.slice a (zi i).length c)/\zf w w' (.slice a (zi i).length c) (zi i))/\Nb w w':=by
 have F1:=zH (zf.lit w [0] #[.int .u8 0] (by simp) 1 (by simp) (by simp) (by simp))
 have N1:=zH (Nb.rfl.al (.cells #[.int .u8 0] 5):Nb w _)
 have HI:=zH hi
 have e64:IntKind.u64.wrap (i:Int)=i:=by rw[IntKind.wrap_u64];omega
 clear hi
 go_enter Tryz.func57,Tryz.ntmps57
 go_wp2_with fail
 refine(z06 i 11 _ (by have:=HI.out;omega) (by omega)).mono ?_
 rintro e w2 ⟨⟨a2,d2,rfl,b2⟩,n2⟩
 have hf2:=F1.out.keep n2
 have hn2:=N1.out.tr n2
 clear n2
 go_wp2_with (at_builtin;refine zd _ rfl (.tmp 4) (.tmp 7) rfl (.slice (some ⟨w.heap.size,0,none⟩) 1 1) [0] rfl hf2.1 a2 d2 (zc i 11) 11 (zb _ _).symm rfl b2 (b2.noneN (zb _ _) (by omega)) (by simp[zb]) ?_)
 intro v3 w3 ho hk hg
 obtain⟨f3,n3⟩:=hf2.app0 hn2 ho hk hg
 have F3:=zH f3
 have N3:=zH n3
 clear ho hk hg hf2 hn2 b2 f3 n3
 have fl3:=zf.lit w3 [0,0,1,1,0] #[.int .u8 0,.int .u8 0,.int .u8 1,.int .u8 1,.int .u8 0] (by simp) 5 (by simp) (by simp) (by intro x hx;simp at hx;omega)
 have fk3:=F3.out.keep (Nb.rfl.al (.cells #[.int .u8 0,.int .u8 0,.int .u8 1,.int .u8 1,.int .u8 0] 5))
 go_wp2_with (at_builtin;refine zd _ rfl (.tmp 9) (.tmp 10) rfl v3 _ rfl fk3.1 _ _ [0,0,1,1,0] 5 rfl rfl fl3.1.asBs.1 (by simp) (by simp[zb]) ?_)
 intro v4 w4 ho hk hg
 obtain⟨f4,n4⟩:=fk3.app0 (N3.out.al _) ho hk (fun g h=>by have:=hg g h;simpa using this)
 have F4:=zH f4
 have N4:=zH n4
 clear ho hk hg fk3 fl3 f4 n4
 have f9:zf w w4 v4 (zi i):=by
  have h:=F4.out
  simpa [zi]using h
 obtain⟨a9,d9,rfl,_,_⟩:=f9.1.bs
 have F9:=zH f9
 clear f9
 go_wp2
 go_ret
 exact⟨⟨_,_,rfl,F9.out⟩,N4.out⟩
theorem z71(w:World):Calls Tryz.prog 58 #[] w fun e w'=>(∃a c,e = .returned (.slice a 4 c)/\zf w w' (.slice a 4 c) zy)/\Nb w w':=by
 have h:=zH (zf.lit w zy #[.int .u8 1,.int .u8 0,.int .u8 0,.int .u8 1] (by simp[zy]) 4 (by simp[zy]) (by simp[zy]) (by simp[zy]))
 go_enter Tryz.func58,Tryz.ntmps58
 go_wp2
 go_ret
 exact⟨⟨_,_,rfl,h.out⟩,Nb.rfl.al _⟩
theorem z8L(w:World):Calls Tryz.prog 60 #[] w fun e w'=>(∃a c,e = .returned (.slice a 4 c)/\zf w w' (.slice a 4 c) z0u)/\Nb w w':=by
 have h:=zH (zf.lit w z0u #[.int .u8 0,.int .u8 1,.int .u8 1,.int .u8 0] (by simp[z0u]) 4 (by simp[z0u]) (by simp[z0u]) (by simp[z0u]))
 go_enter Tryz.func60,Tryz.ntmps60
 go_wp2
 go_ret
 exact⟨⟨_,_,rfl,h.out⟩,Nb.rfl.al _⟩
theorem zad(w:World):Calls Tryz.prog 59 #[] w fun e w'=>e = .returned (.agg #[.int .i64 8,.bool false])/\Nb w w':=by
 go_enter Tryz.func59,Tryz.ntmps59
 go_wp2
 refine bodyPost_ret (v := .agg #[.int .i64 8,.bool false]) (by simp[results,Tryz.results59,go_sem]) rfl ⟨rfl,Nb.rfl.al _⟩
theorem z9A (f:Hd) (a:Option Addr) (cap:Nat) (l:List Nat) (w:World) (hL:l.length<=9223372036854775807) (hK:(f.K==3)=false) :
    Calls Tryz.prog 56 #[.agg (f.cs (.slice a l.length cap))] w fun e w'=>z9H [] 2 e w'/\Nb w w':=by
 obtain⟨K,I,X,R,B,E,S,D,V,A⟩:=f
 simp only[Hd.cs]
 have d:(K != 3)=true:=by simpa [bne]using hK
 clear hK
 go_enter Tryz.func56,Tryz.ntmps56
 go_wp2
 go_ret2
 exact⟨⟨_,_,rfl,Bs.nil _⟩,Nb.rfl.al _⟩
theorem z8E (f:Hd) (a:Option Addr) (cap:Nat) (l:List Nat) (w:World) (hL:l.length<=9223372036854775807) (hK:f.K=3) (ho:okF f l=false) :
    Calls Tryz.prog 56 #[.agg (f.cs (.slice a l.length cap))] w fun e w'=>z9H [] 2 e w'/\Nb w w':=by
 have hc:=fun w'=>z0L f a cap l w' hL
 rw[show zt f l=2 by simp[zt,ho]]at hc
 obtain⟨K,I,X,R,B,E,S,D,V,A⟩:=f
 simp only at hK
 subst hK
 simp only[Hd.cs]at hc ⊢
 have HC:=zH hc
 clear hc ho
 go_enter Tryz.func56,Tryz.ntmps56
 go_wp2_with fail
 refine(HC.out _).mono ?_
 rintro e w1 ⟨rfl,n1⟩
 go_wp2
 go_ret2
 exact⟨⟨_,_,rfl,Bs.nil _⟩,(Nb.rfl.al _).tr n1⟩
theorem z9m (i d v A:Nat) (S:Bool) (a:Option Addr) (cap:Nat) (l:List Nat) (w:World) (h:Bs w a cap l) (hn:a=none->cap=0) (hok:okX ⟨3,(i:Int),false,false,false,false,S,(d:Int),(v:Int),(A:Int)⟩ l=true)
    (hl1:1<=l.length) (hl2:l.length<=2048) (hi:i < 2048) (hd:d < 256) (hv:v < 256) (hA:A < 4294967296) :
    Calls Tryz.prog 56 #[.agg (Hd.cs ⟨3,(i:Int),false,false,false,false,S,(d:Int),(v:Int),(A:Int)⟩ (.slice a l.length cap))] w fun e w'=>z9H (z0z i d v A S l) 0 e w'/\Nb w w':=by
 have hL:=h.len
 have hokF:okF ⟨3,(i:Int),false,false,false,false,S,(d:Int),(v:Int),(A:Int)⟩ l=true:=by simpa [okX]using hok
 have P1:=zH (fun w'=>by
  have:=z0L ⟨3,(i:Int),false,false,false,false,S,(d:Int),(v:Int),(A:Int)⟩ a cap l w' hL
  rw[show zt ⟨3,(i:Int),false,false,false,false,S,(d:Int),(v:Int),(A:Int)⟩ l=0 by simp[zt,hokF]]at this
  simp only[Hd.cs]at this
  exact this)
 have hHl:=zU i
 have hHb:=z0k i
 have hT4:=z05 ((zh (zi i)).length - (zi i).length)
 have hTb:=z0B ((zh (zi i)).length - (zi i).length)
 have hpre:z7J i d l.length S=zc d 8++([zP S]++(zc (l.length - 1) 11++zw ((zh (zi i)).length - (zi i).length))):=rfl
 have hprel:=z2u i d l.length S
 have hpreb:=z7D i d l.length S
 have hpre2:z3q i d v A S l=(z7J i d l.length S++z1R 4 (zi i++z7J i d l.length S))++(zc v 8++(zc A 32++ze l)):=rfl
 have hpre2l:=z5q i d v A S l
 have hpre2b:=z5n i d v A S l
 have hZ:z0z i d v A S l=z3q i d v A S l++z1R 5 (z3q i d v A S l):=rfl
 have hS4l:(z1R 4 (zi i++z7J i d l.length S)).length=13:=by rw[z1G];decide
 have hch:chk (zi i)=true:=z0g hHb (by omega)
 have hchM:chk (zi i++z7J i d l.length S)=true:=z0g (fun x hx=>by
  rcases List.mem_append.1 hx with hx | hx
  ·exact hHb x hx
  ·exact hpreb x hx) (by rw[List.length_append];omega)
 have hch2:chk (z3q i d v A S l)=true:=z0g hpre2b (by omega)
 have P2:=zH (fun w'=>z4n i w' (by omega))
 have P3:=zH (fun w' (a':Option Addr) (c':Nat) (hb:Bs w' a' c' (zi i))=>z1n a' c' (zi i) w' hb hch)
 have hpl:=(zr (zi i)).1
 have hpl2:=(zr (zi i)).2
 obtain⟨q1,q2⟩:=z2Y (k:=4) (by decide) hchM
 have P6:=zH (fun w' (a':Option Addr) (c':Nat) (hb:Bs w' a' c' (zi i++z7J i d l.length S)) (hnn:a'=none->c'=0)=>by
  have:=z4R 4 a' c' _ w' hb hnn
  rw[q1,q2]at this
  exact this)
 obtain⟨q3,q4⟩:=z2Y (k:=5) (by decide) hch2
 have P7:=zH (fun w' (a':Option Addr) (c':Nat) (hb:Bs w' a' c' (z3q i d v A S l)) (hnn:a'=none->c'=0)=>by
  have:=z4R 5 a' c' _ w' hb hnn
  rw[q3,q4,<- hZ]at this
  exact this)
 clear q1 q2 q3 q4 hZ hch hchM hch2 hpre2b
 generalize z0z i d v A S l=Z at *
 generalize z3q i d v A S l=pre2 at *
 generalize z7J i d l.length S=pre at *
 generalize z1R 4 (zi i++pre)=S4 at *
 have P8:=zH (fun w' (n:Nb w w')=>z3t a cap l w' (h.below n) (by omega))
 obtain⟨c,hc⟩:∃c,l.length - 1=c:=⟨_,rfl⟩
 rw[hc]at hpre
 generalize zi i=H at *
 generalize zh H=PH at *
 obtain⟨k,hkk⟩:∃k,PH.length - H.length=k:=⟨_,rfl⟩
 rw[hkk]at hpre hT4 hTb
 have hkI:(PH.length:Int) - (H.length:Int)=(k:Int):=by omega
 have hp5:=fun w'=>z4p k w'
 generalize zw k=T at *
 have P5:=zH hp5
 have hdrop:(H++pre++S4).drop H.length=pre++S4:=by rw[List.append_assoc,List.drop_left]
 have hZl:H.length<=(H++pre++S4).length:=by simp only[List.length_append];omega
 have EQ:=zH (show zc d 8++[zP S]++zc c 11++T=pre by rw[hpre];simp)
 have EQ2:=zH (show pre++S4++zc v 8++zc A 32++ze l=pre2 by rw[hpre2];simp)
 generalize hM:H++pre=M at *
 generalize hMS:M++S4=MS at *
 have e64:IntKind.u64.wrap ((l.length:Int) - 1)=(c:Int):=by rw[IntKind.wrap_u64];omega
 have e64d:IntKind.u64.wrap (d:Int)=d:=by rw[IntKind.wrap_u64];omega
 have e64v:IntKind.u64.wrap (v:Int)=v:=by rw[IntKind.wrap_u64];omega
 have e64A:IntKind.u64.wrap (A:Int)=A:=by rw[IntKind.wrap_u64];omega
 have hc2:c < 2048:=by omega
 have hp9:=fun w'=>zbJ d 8 w' (by omega) (by omega)
 have hD8:=zb d 8
 generalize zc d 8=D8 at *
 have P9:=zH hp9
 have HD8:=zH hD8
 have hdl:MS.length - H.length=(pre++S4).length:=by rw[<- hdrop,List.length_drop]
 obtain⟨PS,hPS⟩:∃PS,pre++S4=PS:=⟨_,rfl⟩
 rw[hPS]at hdrop hdl EQ2
 have HDL:=zH hdl
 have HPSL:=zH (show PS.length=37 by rw[<- hPS,List.length_append,hprel,hS4l])
 have P10:=zH (fun w'=>z06 c 11 w' (by omega) (by omega))
 have P11:=zH (fun w'=>z06 v 8 w' (by omega) (by omega))
 have P12:=zH (fun w'=>z06 A 32 w' (by omega) (by omega))
 have HM:=zH hM
 have HMS:=zH hMS
 have HDR:=zH hdrop
 have HZL:=zH hZl
 have HH:=zH hHl
 have HT:=zH hT4
 have HPR:=zH hprel
 have HP2L:=zH hpre2l
 have HS4:=zH hS4l
 have HPL:=zH (show PH.length<=34 by omega)
 have HB8:=zH (zN l)
 have hbB:=zQ S
 have hkb:k<=100:=by omega
 clear h hn hok hokF hHb hTb hpre hprel hpreb hpre2 hpre2l hS4l hpl hpl2 hkk hp5 hdrop hZl hM hMS hHl hT4 hc hp9 hD8 hdl hPS
 simp only[Hd.cs]
 obtain⟨w1,hw1⟩:∃w1,w1=w.alloc (.cells #[.int .i64 3,.int .u32 i,.bool false,.bool false,.bool false,.bool false,.bool S,.int .u8 d,.int .u8 v,.int .u32 A,.slice a l.length cap] 37):=⟨_,rfl⟩
 have B1:=zH (show Blk w1 w.heap.size #[.int .i64 3,.int .u32 i,.bool false,.bool false,.bool false,.bool false,.bool S,.int .u8 d,.int .u8 v,.int .u32 A,.slice a l.length cap] 37 by rw[hw1];exact Blk.new _ _ _)
 have NW:=zH (show Nb w w1 by rw[hw1];exact Nb.rfl.al _)
 go_enter Tryz.func56,Tryz.ntmps56
 go_wp2_with fail
 rw[<- hw1]
 clear hw1
 refine(P1.out _).mono ?_
 rintro e w2 ⟨rfl,n2⟩
 have N2:=zH n2
 obtain⟨c0,c1,c2,c3,c4,c5,c6,c7,c8,c9,c10⟩:=(B1.out.nb n2).c11
 clear n2
 go_wp2_with fail
 refine(P2.out _).mono ?_
 rintro e w3 ⟨⟨a3,d3,rfl,f3⟩,n3⟩
 have N3:=zH (N2.out.tr n3)
 have F3:=zH f3.bs
 clear n3 f3 c0 c1 c2 c3 c4 c5 c6 c7 c8 c9 c10
 go_wp2_with fail
 refine(P3.out _ a3 d3 F3.out.1).mono ?_
 rintro e w4 ⟨⟨a4,d4,rfl,f4⟩,n4⟩
 have N4:=zH (N3.out.tr n4)
 have F4:=zH (show Bs w4 a3 d3 H/\(a3=none->d3=0) from⟨F3.out.1.below n4,F3.out.2⟩)
 clear n4 f4 F3
 go_wp2_with fail
 refine(P5.out _).mono ?_
 rintro e w5 ⟨⟨a5,d5,rfl,b5⟩,n5⟩
 have N5:=zH (N4.out.tr n5)
 have F5:=zH (show Bs w5 a3 d3 H/\(a3=none->d3=0) from⟨F4.out.1.below n5,F4.out.2⟩)
 have B5:=zH b5
 clear n5 b5 F4
 have Q5:=zH (B1.out.nb N5.out)
 clear B1
 obtain⟨c0,c1,c2,c3,c4,c5,c6,c7,c8,c9,c10⟩:=Q5.out.c11
 go_wp2_with fail
 have NB:RowKit.Hid (Nb w5 w5.drew):=zH (show Nb w5 w5.drew from Nb.drewN w5 1)
 go_region_held3 (fun w'=>w'.cell? ⟨w.heap.size,0,none⟩=some (.int .i64 3)/\w'.cell? ⟨w.heap.size,1,none⟩=some (.int .u32 i)/\w'.cell? ⟨w.heap.size,2,none⟩=some (.bool false)/\w'.cell? ⟨w.heap.size,3,none⟩=some (.bool false)/\w'.cell? ⟨w.heap.size,4,none⟩=some (.bool false)/\w'.cell? ⟨w.heap.size,5,none⟩=some (.bool false)/\w'.cell? ⟨w.heap.size,6,none⟩=some (.bool S)/\w'.cell? ⟨w.heap.size,7,none⟩=some (.int .u8 d)/\w'.cell? ⟨w.heap.size,8,none⟩=some (.int .u8 v)/\w'.cell? ⟨w.heap.size,9,none⟩=some (.int .u32 A)/\w'.cell? ⟨w.heap.size,10,none⟩=some (.slice a l.length cap)) (first | go_keep | exact(Q5.out.nb NB.out).c11 | exact(Q5.out.nb (NB.out.al _)).c11)
  (first
   | (refine z1P _ rfl (.tmp 34) (.tmp 38) rfl (.slice a6 D8.length d6) D8 ?_ ?_ (some ⟨w6.heap.size,0,none⟩) 1 [zP S] 1 rfl ?_ ?_ (by simp) ?_ ?_
      ·simp[Act.eval,Act.put]
      ·exact(F6.out _ (Nb.rfl.al _)).1
      ·simp[Act.eval,Act.put]
      ·exact(zf.lit w6 [zP S] _ (by simp) 1 (by simp) (by simp) (by intro x hx;simp at hx;have:=zQ S;omega)).1.asBs.1
      ·rw[HD8.out];simp
      intro v7 w7 ho hk hg
      have f57:=zf.app0 (F6.out _ (Nb.rfl.al _)) (NB.out.al _) ho hk hg
      have F7:=zH f57.1
      have NB:=zH f57.2
      clear ho hk hg f57)
   | (refine z1P _ rfl (.tmp 34) (.tmp 38) rfl (.slice a6 D8.length d6) D8 ?_ ?_ (some ⟨w5.heap.size,0,none⟩) 1 [zP S] 1 rfl ?_ ?_ (by simp) ?_ ?_
      ·simp[Act.eval,Act.put]
      ·exact(F6.out _ Nb.rfl).1
      ·simp[Act.eval,Act.put]
      ·exact(zf.lit w5.drew [zP S] _ (by simp) 1 (by simp) (by simp) (by intro x hx;simp at hx;have:=zQ S;omega)).1.asBs.1.below M6.out
      ·rw[HD8.out];simp
      intro v7 w7 ho hk hg
      have f57:=zf.app0 (F6.out _ Nb.rfl) NB.out ho hk hg
      have F7:=zH f57.1
      have NB:=zH f57.2
      clear ho hk hg f57)
   | (go_at_call 83
      refine(P9.out _).mono ?_
      rintro e w6 ⟨⟨a6,d6,rfl,f6⟩,n6⟩
      have s6:Nb w5 w6/\zf w5 w6 (.slice a6 D8.length d6) D8:=by
       first
        | exact⟨NB.out.tr n6,f6.less NB.out.size⟩
        | exact⟨(NB.out.al _).tr n6,f6.less (NB.out.al _).size⟩
      have F6:=zH (fun w' (n:Nb w6 w')=>s6.2.keep n)
      have M6:=zH n6
      have NB:=zH s6.1
      clear f6 n6 s6)
   | (go_at_call 82
      refine(z2o _ _).mono ?_
      rintro e wz ⟨rfl,rfl⟩))
 all_goals
  have N7:=zH NB.out
  clear NB c0 c1 c2 c3 c4 c5 c6 c7 c8 c9 c10
  obtain⟨c0,c1,c2,c3,c4,c5,c6,c7,c8,c9,c10⟩:=(Q5.out.nb N7.out).c11
  go_wp2_with fail
  clear c0 c1 c2 c3 c4 c5 c6 c7 c8 c9 c10
  refine(P10.out _).mono ?_
  rintro e w8 ⟨⟨a8,d8,rfl,b8⟩,n8⟩
  have hf8:=F7.out.keep n8
  have hn8:=N7.out.tr n8
  have hb8:=b8.noneN (zb c 11) (by omega)
  clear n8
  go_wp2_with (at_builtin;refine zd _ rfl (.tmp 40) (.tmp 46) rfl v7 (D8++[zP S]) rfl hf8.1 a8 d8 (zc c 11) 11 (zb _ _).symm rfl b8 hb8 (by rw[List.length_append,HD8.out,zb];simp) ?_)
  intro v9 w9 ho hk hg
  have f9:=hf8.app0 hn8 ho hk hg
  have hT9:=B5.out.below f9.2
  obtain⟨L9,hL9⟩:∃L9,L9=D8++[zP S]++zc c 11:=⟨_,rfl⟩
  have EQ9:=zH (show L9++T=pre by rw[hL9,EQ.out])
  have LL9:=zH (show L9.length=20 by rw[hL9,List.length_append,List.length_append,HD8.out,zb];rfl)
  have f9:zf w5 w9 v9 L9/\Nb w5 w9:=⟨by rw[hL9];simpa using f9.1,f9.2⟩
  have F9:=zH f9.1
  have N9:=zH f9.2
  have hT9n:=hT9.noneN HT.out (by omega)
  rw[<- HT.out]at hT9n
  clear ho hk hg hf8 hn8 b8 hb8 f9 hL9
  go_wp2_with (at_builtin;refine zd _ rfl (.tmp 48) (.tmp 49) rfl v9 L9 rfl F9.out.1 a5 d5 T T.length rfl rfl hT9 hT9n (by rw[LL9.out,HT.out];omega) ?_)
  intro v10 w10 ho hk hg
  have f10:=F9.out.app0 N9.out ho hk hg
  rw[EQ9.out]at f10
  obtain⟨ap,dp,rfl,_,_⟩:=f10.1.1.bs
  have F10:=zH f10.1.bs
  have N10:=zH f10.2
  have H10:=zH (F5.out.1.below f10.2)
  clear ho hk hg f10 hT9 hT9n
  have fl:=zf.lit w10 [] #[] (by simp) 0 rfl (by simp) (by simp)
  have hFk:=H10.out.below (Nb.rfl.al (.cells #[] 5))
  go_wp2_with (at_builtin;refine zd _ rfl (.tmp 52) (.tmp 53) rfl (.slice (some ⟨w10.heap.size,0,none⟩) 0 0) [] rfl fl.1 a3 d3 H H.length rfl rfl hFk (fun h0=>⟨by subst h0;rw[hFk.none_len];rfl,F5.out.2 h0⟩) (by rw[List.length_nil,HH.out];omega) ?_)
  intro v11 w11 ho hk hg
  have f11:=fl.app0 (Nb.rfl.al _) ho hk (fun g h=>by have:=hg g h;simpa using this)
  have F11:=zH (show zf w10 w11 v11 H by simpa using f11.1)
  have N11:=zH f11.2
  have G11:=zH (F10.out.1.below f11.2)
  clear ho hk hg f11 fl hFk
  go_wp2_with (at_builtin;refine zd _ rfl (.tmp 54) (.tmp 55) rfl v11 H rfl F11.out.1 ap dp pre pre.length rfl rfl G11.out (fun h0=>⟨by have:=G11.out;subst h0;rw[this.none_len];rfl,F10.out.2 h0⟩) (by rw[HH.out,HPR.out];omega) ?_)
  intro v12 w12 ho hk hg
  have f12:=F11.out.app0 N11.out ho hk hg
  rw[HM.out]at f12
  obtain⟨a12,d12,rfl,_,_⟩:=f12.1.1.bs
  have F12:=zH f12.1.bs
  have N12:=zH (N10.out.tr f12.2)
  clear ho hk hg f12
  go_wp2_with fail
  refine(P6.out _ a12 d12 F12.out.1 F12.out.2).mono ?_
  rintro e w13 ⟨⟨a13,d13,rfl,b13⟩,n13⟩
  have N13:=zH (N12.out.tr n13)
  have b13':=b13.cutL H.length HZL.out
  have hcut:=fun w=>z38 a13 MS.length d13 H.length HZL.out w
  rw[HDR.out]at b13'
  obtain⟨aU,haU⟩:∃aU,z7K a13 d13 H.length=aU:=⟨_,rfl⟩
  rw[haU]at b13' hcut
  obtain⟨dU,hdU⟩:∃dU,d13 - H.length=dU:=⟨_,rfl⟩
  rw[hdU]at b13' hcut
  rw[HDL.out]at hcut
  have B13:=zH b13'
  clear b13 n13 haU hdU b13'
  have fl:=zf.lit w13 [] #[] (by simp) 0 rfl (by simp) (by simp)
  have hFk:=B13.out.below (Nb.rfl.al (.cells #[] 5))
  have hFn:=hFk.noneN HPSL.out (by omega)
  rw[<- HPSL.out]at hFn
  go_wp2_with (at_builtin;refine zd _ rfl (.tmp 60) (.tmp 64) rfl (.slice (some ⟨w13.heap.size,0,none⟩) 0 0) [] rfl fl.1 aU dU PS PS.length rfl rfl hFk hFn (by rw[List.length_nil,HPSL.out];omega) ?_)
  intro v14 w14 ho hk hg
  have f14:=fl.app0 (Nb.rfl.al _) ho hk (fun g h=>by have:=hg g h;simpa using this)
  have F14:=zH (show zf w13 w14 v14 PS by simpa using f14.1)
  have N14:=zH f14.2
  clear ho hk hg f14 fl hFk hFn hcut
  obtain⟨c0,c1,c2,c3,c4,c5,c6,c7,c8,c9,c10⟩:=((Q5.out.nb N13.out).nb N14.out).c11
  go_wp2_with fail
  clear c0 c1 c2 c3 c4 c5 c6 c7 c8 c9 c10
  refine(P11.out _).mono ?_
  rintro e w15 ⟨⟨a15,d15,rfl,b15⟩,n15⟩
  have hf:=F14.out.keep n15
  have hn15:=N14.out.tr n15
  have hb:=b15.noneN (zb v 8) (by omega)
  clear n15
  go_wp2_with (at_builtin;refine zd _ rfl (.tmp 66) (.tmp 70) rfl v14 PS rfl hf.1 a15 d15 (zc v 8) 8 (zb _ _).symm rfl b15 hb (by rw[HPSL.out,zb];omega) ?_)
  intro v16 w16 ho hk hg
  have f16:=hf.app0 hn15 ho hk hg
  obtain⟨L16,hL16⟩:∃L16,L16=PS++zc v 8:=⟨_,rfl⟩
  have LL16:=zH (show L16.length=45 by rw[hL16,List.length_append,HPSL.out,zb])
  rw[<- hL16]at f16
  have E16:=zH hL16
  have F16:=zH f16.1
  have N16:=zH f16.2
  clear ho hk hg hf hn15 b15 hb f16 hL16
  obtain⟨c0,c1,c2,c3,c4,c5,c6,c7,c8,c9,c10⟩:=((Q5.out.nb N13.out).nb N16.out).c11
  go_wp2_with fail
  clear c0 c1 c2 c3 c4 c5 c6 c7 c8 c9 c10
  refine(P12.out _).mono ?_
  rintro e w17 ⟨⟨a17,d17,rfl,b17⟩,n17⟩
  have hf:=F16.out.keep n17
  have hn17:=N16.out.tr n17
  have hb:=b17.noneN (zb A 32) (by omega)
  clear n17
  go_wp2_with (at_builtin;refine zd _ rfl (.tmp 72) (.tmp 76) rfl v16 L16 rfl hf.1 a17 d17 (zc A 32) 32 (zb _ _).symm rfl b17 hb (by rw[LL16.out,zb];omega) ?_)
  intro v18 w18 ho hk hg
  have f18:=hf.app0 hn17 ho hk hg
  obtain⟨L18,hL18⟩:∃L18,L18=L16++zc A 32:=⟨_,rfl⟩
  have LL18:=zH (show L18.length=77 by rw[hL18,List.length_append,LL16.out,zb])
  have E18:=zH (show L18++ze l=pre2 by rw[hL18,E16.out,EQ2.out])
  rw[<- hL18]at f18
  have F18:=zH f18.1
  have N18:=zH f18.2
  clear ho hk hg hf hn17 b17 hb f18 hL18
  obtain⟨c0,c1,c2,c3,c4,c5,c6,c7,c8,c9,c10⟩:=((Q5.out.nb N13.out).nb N18.out).c11
  go_wp2_with fail
  clear c0 c1 c2 c3 c4 c5 c6 c7 c8 c9 c10
  refine(P8.out _ (NW.out.tr (N5.out.tr (N13.out.tr N18.out)))).mono ?_
  rintro e w19 ⟨⟨a19,d19,rfl,b19,z19⟩,n19⟩
  have hf:=F18.out.keep n19
  have hn19:=N18.out.tr n19
  have b19':Bs w19 a19 d19 (ze l):=b19
  have hb:a19=none->8*l.length=0/\d19=0:=fun h0=>⟨by
   subst h0
   have h3:=b19'.none_len
   have h4:=HB8.out
   rw[h3]at h4
   simp at h4
   omega,z19 h0⟩
  clear n19 b19 z19
  go_wp2_with (at_builtin;refine zd _ rfl (.tmp 78) (.tmp 81) rfl v18 L18 rfl hf.1 a19 d19 (ze l) (8*l.length) HB8.out.symm rfl b19' hb (by rw[LL18.out,HB8.out];omega) ?_)
  intro v20 w20 ho hk hg
  have f20:=hf.app0 hn19 ho hk hg
  rw[E18.out]at f20
  obtain⟨a20,d20,rfl,_,_⟩:=f20.1.1.bs
  have F20:=zH f20.1.bs
  have N20:=zH f20.2
  clear ho hk hg hf hn19 b19' hb f20
  go_wp2_with fail
  refine(P7.out _ a20 d20 F20.out.1 F20.out.2).mono ?_
  rintro e w21 ⟨⟨a21,d21,rfl,b21⟩,n21⟩
  have B21:=zH b21
  have N21:=zH (NW.out.tr (N5.out.tr (N13.out.tr (N20.out.tr n21))))
  clear b21 n21
  go_wp2
  go_ret2
  exact⟨⟨_,_,rfl,B21.out⟩,N21.out⟩
theorem z4k (f:Hd) (a:Option Addr) (cap:Nat) (l:List Nat) (w:World) (h:Bs w a cap l) (hn:a=none->cap=0) (hW:WdX f) :
    Calls Tryz.prog 56 #[.agg (f.cs (.slice a l.length cap))] w fun e w'=>z9H (bxC f l) (z3A f l) e w'/\Nb w w':=by
 cases hok:okX f l with
 | true =>
   obtain⟨i,d,v,A,S,rfl,h1,h2,h3,h4,h5,h6,eb,ee,et⟩:=z4K hok hW
   rw[eb,ee]
   exact z9m i d v A S a cap l w h hn hok h1 h2 h3 h4 h5 h6
 | false =>
   rw[show bxC f l=[] by simp[bxC,hok],show z3A f l=2 by simp[z3A,hok]]
   cases hK:f.K==3 with
   | false=>exact z9A f a cap l w h.len hK
   | true=>exact z8E f a cap l w h.len (by simpa using hK) (by simpa [okX,hK]using hok)
theorem z89 (f:Hd) (a:Option Addr) (cap:Nat) (l:List Nat) (w:World) (h:Bs w a cap l) (hn:a=none->cap=0) (hW:WdX f) (hok:okX f l=false) :
    Calls Tryz.prog 26 #[.agg (f.cs (.slice a l.length cap))] w fun e w'=>z4B w [] 0 0 2 e w'/\Nb w w':=by
 have hL:=h.len
 have hp:=fun w' (n:Nb w w')=>z4k f a cap l w' (h.below n) hn hW
 rw[show bxC f l=[] by simp[bxC,hok],show z3A f l=2 by simp[z3A,hok]]at hp
 obtain⟨K,I,X,R,B,E,S,D,V,A⟩:=f
 simp only[Hd.cs]at hp ⊢
 have HP:=zH hp
 clear hp h hW hok
 go_enter Tryz.func26,Tryz.ntmps26
 go_wp2_with fail
 refine(HP.out _ ((Nb.rfl.al _).al _)).mono ?_
 rintro e w1 ⟨⟨a1,c1,rfl,f1⟩,n1⟩
 have m1:Nb w w1:=((Nb.rfl.al _).al _).tr n1
 have hx:=(Blk.new (w.alloc (.cells #[.int .i64 K,.int .u32 I,.bool X,.bool R,.bool B,.bool E,.bool S,.int .u8 D,.int .u8 V,.int .u32 A,.slice a l.length cap] 37)) #[.slice none 0 0,.int .i64 0,.int .i64 0] 52).nb n1
 rw[World.size_alloc]at hx
 obtain⟨d0,d1,d2⟩:=hx.c3
 obtain⟨g0,g1,g2⟩:=hx.f3
 have HB:=zH (z0n (v0 := .slice none 0 0) (v1 := .int .i64 0) (v2 := .int .i64 0) hx)
 have HW:=zH (z0P m1 (b:=w.heap.size+1) (by omega) (.slice none 0 0) (.int .i64 0) (.int .i64 0))
 clear f1 n1 hx m1
 go_wp2
 change bodyPost _ _ _ _ _ (put3 w1 (w.heap.size+1) (.slice none 0 0) (.int .i64 0) (.int .i64 0))
 generalize put3 w1 (w.heap.size+1) (.slice none 0 0) (.int .i64 0) (.int .i64 0)=W at *
 obtain⟨e0,e1,e2⟩:=HB.out.c3
 exact bodyPost_ret (v := .tuple #[.agg #[.slice none 0 0,.int .i64 0,.int .i64 0],.int .i64 2]) (by simp[results,Tryz.results26,go_sem,e0,e1,e2]) rfl ⟨⟨none,0,rfl,z04.nil _,fun g hg=>by cases hg⟩,HW.out⟩
theorem z9R (f:Hd) (a:Option Addr) (cap:Nat) (l:List Nat) (w:World) (h:Bs w a cap l) (hn:a=none->cap=0) (hW:WdX f) (hok:okX f l=true) :
    Calls Tryz.prog 26 #[.agg (f.cs (.slice a l.length cap))] w fun e w'=>z4B w (wxC f l) (z1y f l) (z29 f l) 0 e w'/\Nb w w':=by
 have hL:=h.len
 have hp:=fun w' (n:Nb w w')=>z4k f a cap l w' (h.below n) hn hW
 rw[show z3A f l=0 by rw[z3A,if_pos hok]]at hp
 obtain⟨i,d,v,A,S,ef,z1,z2,hi,z3,z4,z5,z6,z7,et⟩:=z4K hok hW
 clear z1 z2 z3 z4 z5 z6 z7
 have eI:f.I=(i:Int):=by rw[ef]
 have hbl:=z7L hok
 have hln:=zle hok
 have hch:chk (bxC f l)=true:=z0g zaD (by omega)
 have hsz:=z8t (n:=(bxC f l).length) (by omega)
 have hge:=zdn 8 false (bxC f l).length
 have hp2:=fun w' (a':Option Addr) (c':Nat) (hb:Bs w' a' c' (bxC f l))=>z6I 1 a' c' (bxC f l) 8 false w' (by omega) hb (by omega) (by omega) hch
 have hfl:=z1T (E:=8) false 1 (bxC f l)
 rw[show wxC f l=zh (zi f.I.toNat)++zy++zv 8 false 1 (bxC f l)++z0u++ones 10 by rw[wxC,if_pos hok,rwX],show z1y f l=(zh (zi f.I.toNat)).length by rw[z1y,if_pos hok],
  show z29 f l=(zh (zi f.I.toNat)++zy++zv 8 false 1 (bxC f l)++z0u).length+1 by rw[z29,if_pos hok,rwX],et]
 have hpl:=(zr (zi i)).1
 rw[zU]at hpl
 have hp3:=fun w'=>z4n i w' (by omega)
 have hp4:=fun w' (a':Option Addr) (c':Nat) (hb:Bs w' a' c' (zi i))=>z1n a' c' (zi i) w' hb (z0g (z0k i) (by rw[zU];omega))
 have hfx1:0 < (zv 8 false 1 (bxC f l)).length:=by omega
 have hfx2:(zv 8 false 1 (bxC f l)).length<=20000:=by omega
 have HP:=zH hp
 have HP2:=zH hp2
 have HP3:=zH hp3
 have HP4:=zH hp4
 have HPL:=zH hpl
 have HF:=zH (And.intro hfx1 hfx2)
 have ls:=zH (show zy.length=4 by rfl)
 have lt:=zH (show z0u.length=4 by rfl)
 clear hp hp2 hp3 hp4 hpl hfx1 hfx2 hfl hge hsz hch hln hbl h hW hok et ef
 generalize zv 8 false 1 (bxC f l)=T at *
 generalize bxC f l=L at *
 generalize zh (zi i)=P at *
 generalize zi i=H at *
 obtain⟨K,I,X,R,B,E,S',D,V,A'⟩:=f
 simp only at eI
 subst eI
 simp only[Hd.cs]at HP ⊢
 obtain⟨L5,hL5⟩:∃L5,L5=P++zy:=⟨_,rfl⟩
 obtain⟨L6,hL6⟩:∃L6,L6=L5++T:=⟨_,rfl⟩
 obtain⟨Q,hQ⟩:∃Q,Q=L6++z0u:=⟨_,rfl⟩
 rw[<- hL5,<- hL6,<- hQ]
 have n5:=zH (show L5.length<=1000 by rw[hL5,List.length_append,ls.out];have:=HPL.out;omega)
 have n6:=zH (show L6.length<=30000 by rw[hL6,List.length_append];have:=n5.out;have:=HF.out.2;omega)
 have n7:=zH (show Q.length<=40000 by rw[hQ,List.length_append,lt.out];have:=n6.out;omega)
 have E5:=zH hL5
 have E6:=zH hL6
 have EQ:=zH hQ
 clear hL5 hL6 hQ
 obtain⟨w0,hw0⟩:∃w0,w0=(w.alloc (.cells #[.int .i64 K,.int .u32 (i:Int),.bool X,.bool R,.bool B,.bool E,.bool S',.int .u8 D,.int .u8 V,.int .u32 A',.slice a l.length cap] 37)).alloc (.cells #[.slice none 0 0,.int .i64 0,.int .i64 0] 52):=⟨_,rfl⟩
 have B0:=zH (show Blk w0 w.heap.size _ _ by rw[hw0];exact(Blk.new w #[.int .i64 K,.int .u32 (i:Int),.bool X,.bool R,.bool B,.bool E,.bool S',.int .u8 D,.int .u8 V,.int .u32 A',.slice a l.length cap] 37).nb (Nb.rfl.al _))
 have hx0:=Blk.new (w.alloc (.cells #[.int .i64 K,.int .u32 (i:Int),.bool X,.bool R,.bool B,.bool E,.bool S',.int .u8 D,.int .u8 V,.int .u32 A',.slice a l.length cap] 37)) #[.slice none 0 0,.int .i64 0,.int .i64 0] 52
 rw[World.size_alloc,<- hw0]at hx0
 have X0:=zH hx0
 have NW:=zH (show Nb w w0 by rw[hw0];exact(Nb.rfl.al _).al _)
 clear hx0
 go_enter Tryz.func26,Tryz.ntmps26
 go_wp2_with fail
 rw[<- hw0]
 clear hw0
 refine(HP.out _ NW.out).mono ?_
 rintro e w1 ⟨⟨a1,c1,rfl,b1⟩,n1⟩
 have M1:=zH n1
 have B1:=zH b1
 clear b1 n1
 obtain⟨u0,u1,u2,u3,u4,u5,u6,u7,u8,u9,u10⟩:=(B0.out.nb M1.out).c11
 go_wp2_with fail
 clear u0 u1 u2 u3 u4 u5 u6 u7 u8 u9 u10
 refine(HP3.out _).mono ?_
 rintro e w2 ⟨⟨a2,c2,rfl,f2⟩,n2⟩
 have M2:=zH (M1.out.tr n2)
 have B2:=zH (B1.out.below n2)
 have F2:=zH f2.bs
 clear f2 n2
 go_wp2_with fail
 refine(HP4.out _ a2 c2 F2.out.1).mono ?_
 rintro e w3 ⟨⟨a3,c3,rfl,f3⟩,n3⟩
 have M3:=zH (M2.out.tr n3)
 have B3:=zH (B2.out.below n3)
 have F3:=zH f3.bs
 clear f3 n3 F2
 have fl:=zf.lit w3 [] #[] (by simp) 0 rfl (by simp) (by simp)
 have hFk:=F3.out.1.below (Nb.rfl.al (.cells #[] 5))
 go_wp2_with (at_builtin;refine zd _ rfl (.tmp 21) (.tmp 22) rfl (.slice (some ⟨w3.heap.size,0,none⟩) 0 0) [] rfl fl.1 a3 c3 P P.length rfl rfl hFk (fun h0=>⟨by subst h0;rw[hFk.none_len];rfl,F3.out.2 h0⟩) (by rw[List.length_nil];have:=HPL.out;omega) ?_)
 intro v4 w4 ho hk hg
 have f4:=fl.app0 (Nb.rfl.al _) ho hk (fun g h=>by have:=hg g h;simpa using this)
 have F4:=zH (show zf w3 w4 v4 P by simpa using f4.1)
 have N4:=zH f4.2
 clear ho hk hg f4 fl hFk
 go_wp2_with fail
 refine(z71 _).mono ?_
 rintro e w5 ⟨⟨a5,c5,rfl,f5⟩,n5⟩
 have hf:=F4.out.keep n5
 have hm:=N4.out.tr n5
 have hb:=f5.1.asBs.1
 have hbn:=hb.noneN ls.out (by omega)
 clear f5 n5
 go_wp2_with (at_builtin;refine zd _ rfl (.tmp 23) (.tmp 24) rfl v4 P rfl hf.1 a5 c5 zy 4 ls.out.symm rfl hb hbn (by rw[ls.out];have:=HPL.out;omega) ?_)
 intro v6 w6 ho hk hg
 have f6:=hf.app0 hm ho hk hg
 rw[<- E5.out]at f6
 have F6:=zH f6.1
 have N6:=zH f6.2
 clear ho hk hg hf hm hb hbn f6
 go_wp2_with fail
 refine(zad _).mono ?_
 rintro e w7 ⟨rfl,n7a⟩
 have N7:=zH (N6.out.tr n7a)
 have F7:=zH (F6.out.keep n7a)
 have B7:=zH (B3.out.below N7.out)
 clear n7a
 go_wp2_with fail
 refine(HP2.out _ a1 c1 B7.out).mono ?_
 rintro e w8 ⟨⟨a8,c8,rfl,b8⟩,n8⟩
 have hf:=F7.out.keep n8
 have hm:=N7.out.tr n8
 have hbn:=b8.noneN rfl HF.out.1
 clear n8
 go_wp2_with (at_builtin;refine zd _ rfl (.tmp 26) (.tmp 29) rfl v6 L5 rfl hf.1 a8 c8 T T.length rfl rfl b8 hbn (by have:=n5.out;have:=HF.out.2;omega) ?_)
 intro v9 w9 ho hk hg
 have f9:=hf.app0 hm ho hk hg
 rw[<- E6.out]at f9
 have F9:=zH f9.1
 have N9:=zH f9.2
 clear ho hk hg hf hm b8 hbn f9
 go_wp2_with fail
 refine(z8L _).mono ?_
 rintro e wa ⟨⟨aa,ca,rfl,fa⟩,na⟩
 have hf:=F9.out.keep na
 have hm:=N9.out.tr na
 have hb:=fa.1.asBs.1
 have hbn:=hb.noneN lt.out (by omega)
 clear fa na
 go_wp2_with (at_builtin;refine zd _ rfl (.tmp 31) (.tmp 32) rfl v9 L6 rfl hf.1 aa ca z0u 4 lt.out.symm rfl hb hbn (by rw[lt.out];have:=n6.out;omega) ?_)
 intro vb wb ho hk hg
 have fb:=hf.app0 hm ho hk hg
 rw[<- EQ.out]at fb
 have FB:=zH fb.1
 have NB:=zH fb.2
 clear ho hk hg hf hm hb hbn fb
 go_wp2_with fail
 refine(z5B _).mono ?_
 rintro e wc ⟨⟨ac,cc,rfl,fc⟩,nc⟩
 have hf:=FB.out.keep nc
 have hm:=NB.out.tr nc
 have hb:=fc.1.asBs.1
 have hbn:=hb.noneN (z0a 10) (by omega)
 clear fc nc
 go_wp2_with (at_builtin;refine zd _ rfl (.tmp 34) (.tmp 35) rfl vb Q rfl hf.1 ac cc (ones 10) 10 (z0a 10).symm rfl hb hbn (by rw[z0a];have:=n7.out;omega) ?_)
 intro vd wd ho hk hg
 have fd:=hf.app0 hm ho hk hg
 obtain⟨ad,dd,rfl,_,_⟩:=fd.1.1.bs
 obtain⟨Z2,hZ2⟩:∃Z2,Z2=Q++ones 10:=⟨_,rfl⟩
 have hZl:=zH (show Z2.length=Q.length+10 by rw[hZ2,List.length_append,z0a])
 rw[<- hZ2]at fd
 rw[<- hZ2]
 have FD:=zH fd.1
 have ND:=zH (M3.out.tr fd.2)
 have HZ2:=zH hZ2
 clear ho hk hg fd hf hm hb hbn hZ2
 have s3:=M3.out.size
 have hxf:=X0.out.nb ND.out
 obtain⟨d0,d1,d2⟩:=hxf.c3
 obtain⟨g0,g1,g2⟩:=hxf.f3
 have s0:w.heap.size+2<=w0.heap.size:=X0.out.lt
 have eq9:(Z2.length:Int) - 9=(Q.length:Int)+1:=by rw[hZl.out];omega
 have HB:=zH (z0n (v0 := .slice ad Z2.length dd) (v1 := .int .i64 P.length) (v2 := .int .i64 ((Z2.length:Int) - 9)) hxf)
 have HW:=zH (z0P (NW.out.tr ND.out) (b:=w.heap.size+1) (by omega) (.slice ad Z2.length dd) (.int .i64 P.length) (.int .i64 ((Z2.length:Int) - 9)))
 have HF9:=zH (show zf w _ _ _ from⟨FD.out.1.put3 (b:=w.heap.size+1) (fun g hg=>by have:=FD.out.2 g hg;omega) (.slice ad Z2.length dd) (.int .i64 P.length) (.int .i64 ((Z2.length:Int) - 9)),fun g hg=>by have:=FD.out.2 g hg;omega⟩)
 have E9:=zH eq9
 have lq:Z2.length<=50000:=by rw[hZl.out];have:=n7.out;omega
 have lp:P.length<=100:=by have:=HPL.out;omega
 clear hxf eq9
 go_wp2
 change bodyPost _ _ _ _ _ (put3 wd (w.heap.size+1) (.slice ad Z2.length dd) (.int .i64 P.length) (.int .i64 ((Z2.length:Int) - 9)))
 generalize put3 wd (w.heap.size+1) (.slice ad Z2.length dd) (.int .i64 P.length) (.int .i64 ((Z2.length:Int) - 9))=W at *
 obtain⟨e0,e1,e2⟩:=HB.out.c3
 exact bodyPost_ret (v := .tuple #[.agg #[.slice ad Z2.length dd,.int .i64 P.length,.int .i64 ((Z2.length:Int) - 9)],.int .i64 0]) (by simp[results,Tryz.results26,go_sem,e0,e1,e2]) rfl ⟨⟨ad,dd,by rw[E9.out,<- HZ2.out];rfl,by rw[<- HZ2.out];exact HF9.out⟩,HW.out⟩
theorem z9b (f:Hd) (a:Option Addr) (cap:Nat) (l:List Nat) (w:World) (h:Bs w a cap l) (hn:a=none->cap=0) (hW:WdX f) :
    Calls Tryz.prog 26 #[.agg (f.cs (.slice a l.length cap))] w fun e w'=>z4B w (wxC f l) (z1y f l) (z29 f l) (z3A f l) e w'/\Nb w w':=by
 cases hok:okX f l with
 | true =>
   rw[show z3A f l=0 by rw[z3A,if_pos hok]]
   exact z9R f a cap l w h hn hW hok
 | false =>
   rw[show z3A f l=2 by simp[z3A,hok],show wxC f l=[] by simp[wxC,hok],show z1y f l=0 by simp[z1y,hok],show z29 f l=0 by simp[z29,hok]]
   exact z89 f a cap l w h hn hW hok
end Go.Proofs.YtplbmlpdefpplaaGreatDoor
