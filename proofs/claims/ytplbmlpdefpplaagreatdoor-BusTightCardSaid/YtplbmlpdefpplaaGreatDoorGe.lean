/- Contract of package classic's putHead, and more. Conditions: as each says. -/
import Derived.Test.YtplbmlpdefpplaaGreatDoorRwC
import Derived.Test.YtplbmlpdefpplaaGreatDoorRows
import Derived.LaidSub
set_option maxHeartbeats 4000000
set_option maxRecDepth 100000
namespace Go.Proofs.YtplbmlpdefpplaaGreatDoor
set_option linter.unusedVariables false
set_option linter.unusedSimpArgs false
open Go.RowKit
theorem zdj(a b:Nat)(ha:a < 4294967296)(hb:b < 4294967296):bits BinOp.and IntKind.u32 (a:Int) (b:Int)=((a &&& b:Nat):Int):=by
 have hx:a &&& b < 2^32:=Nat.and_lt_two_pow _ (by omega)
 have h1:(BitVec.ofInt 32 (a:Int)).toNat=a:=by rw[BitVec.ofInt_natCast,BitVec.toNat_ofNat];exact Nat.mod_eq_of_lt (by omega)
 have h2:(BitVec.ofInt 32 (b:Int)).toNat=b:=by rw[BitVec.ofInt_natCast,BitVec.toNat_ofNat];exact Nat.mod_eq_of_lt (by omega)
 show IntKind.u32.wrap ((BitVec.ofInt 32 (a:Int) &&& BitVec.ofInt 32 (b:Int)).toNat:Int)=_
 rw[BitVec.toNat_and,h1,h2]
 have hx2:((a &&& b:Nat):Int) < 4294967296:=by omega
 generalize a &&& b=c at *
 simp only[IntKind.wrap,IntKind.bits,IntKind.signed]
 simp
 omega
theorem zm0(i:Nat)(h:i < 4294967296):bits BinOp.and IntKind.u32 (i:Int) 262143=((i%262144:Nat):Int):=by
 have h2:=zdj i (2^18 - 1) h (by decide)
 rw[Nat.and_two_pow_sub_one_eq_mod]at h2
 exact h2
theorem zaq (i:Nat) (K:Int) (R B E S:Bool) (D V A:Int) (dv:Value) (R0:Nat) (v:Value) (l:List Nat) (w:World) (h:z1k w 205 R0 v l) (hi:i < 536870912) (hx:i < 2048) (hl:l.length<=100000) :
    Calls Tryz.prog 149 #[.agg #[.int .i64 K,.int .u32 i,.bool false,.bool R,.bool B,.bool E,.bool S,.int .u8 D,.int .u8 V,.int .u32 A,dv],.func (.func 148) #[.pointer (some ⟨R0,0,none⟩)] #[]] w fun e w'=>e = .returned (.tuple #[])/\zm w 205 R0 v (l++zJ false R i) w':=by
 obtain⟨w1,hw1⟩:∃w1,w1=w.alloc (.cells #[.int .i64 K,.int .u32 i,.bool false,.bool R,.bool B,.bool E,.bool S,.int .u8 D,.int .u8 V,.int .u32 A,dv] 37):=⟨_,rfl⟩
 have bx:Blk w1 w.heap.size #[.int .i64 K,.int .u32 i,.bool false,.bool R,.bool B,.bool E,.bool S,.int .u8 D,.int .u8 V,.int .u32 A,dv] 37:=by rw[hw1];exact Blk.new _ _ _
 have r1:z1k w1 205 R0 v l:=h.keep (F:=fun _=>False) (by rw[hw1];exact Kp.alloc) (by simp)
 have k1:Kp (z2V R0 v) w1 w1:=Kp.rfl
 have f1:∀k,z2V R0 v k->z2V R0 v k\/w1.heap.size<=k:=fun _ h => .inl h
 have hnb:¬z2V R0 v w.heap.size:=fun hf=>by have:=h.lt _ hf;omega
 have K0:=zH (show Kp (z2V R0 v) w w1 from by rw[hw1];exact Kp.alloc)
 have BX:=zH bx
 have HNB:=zH hnb
 have W1:=zH hw1
 clear bx hnb h
 go_enter Tryz.func149,Tryz.ntmps149
 go_wp2_with fail
 rw[<- hw1]
 clear hw1
 refine(zO R0 v _ 0 1 _ r1 (by omega) (by omega) (by decide) (by(try simp only[List.length_append,zb]);omega)).mono ?_
 rintro e w2 ⟨rfl,s2⟩
 obtain⟨v2,r2,k2,f2⟩:=zm.tr2 k1 f1 s2
 clear s2 r1 k1 f1
 obtain⟨c0,c1,c2,c3,c4,c5,c6,c7,c8,c9,c10⟩:=(BX.out.keep k2 HNB.out).c11
 go_wp2_with fail
 refine(zO R0 v2 _ i 11 _ r2 (by omega) (by omega) (by omega) (by(try simp only[List.length_append,zb]);omega)).mono ?_
 rintro e w3 ⟨rfl,s3⟩
 obtain⟨v3,r3,k3,f3⟩:=zm.tr2 k2 f2 s3
 clear s3 r2 k2 f2
 obtain⟨c0,c1,c2,c3,c4,c5,c6,c7,c8,c9,c10⟩:=(BX.out.keep k3 HNB.out).c11
 go_wp2_with fail
 refine(z2N R _).mono ?_
 rintro e w4 ⟨rfl,rfl⟩
 go_wp2_with fail
 refine(zO R0 v3 _ (zP R) 1 _ r3 (by omega) (by omega) (by have:=zQ R;omega) (by(try simp only[List.length_append,zb]);omega)).mono ?_
 rintro e w4 ⟨rfl,s4⟩
 obtain⟨v4,r4,k4,f4⟩:=zm.tr2 k3 f3 s4
 clear s4 r3 k3 f3
 obtain⟨c0,c1,c2,c3,c4,c5,c6,c7,c8,c9,c10⟩:=(BX.out.keep k4 HNB.out).c11
 go_wp2_with fail
 refine(zO R0 v4 _ 0 2 _ r4 (by omega) (by omega) (by decide) (by(try simp only[List.length_append,zb]);omega)).mono ?_
 rintro e w5 ⟨rfl,s5⟩
 obtain⟨v5,r5,k5,f5⟩:=zm.tr2 k4 f4 s5
 clear s5 r4 k4 f4
 obtain⟨c0,c1,c2,c3,c4,c5,c6,c7,c8,c9,c10⟩:=(BX.out.keep k5 HNB.out).c11
 go_wp2
 go_end0
 refine⟨rfl,zm.tr2 K0.out (fun _ h => .inl h) ⟨_,?_,k5,f5⟩⟩
 have e:l++zJ false R i=l++zc 0 1++zc i 11++zc (zP R) 1++zc 0 2:=by simp[zJ,z4W,zb9,zbn,z4Q]
 rw[e]
 exact r5
theorem z9Y (i:Nat) (K:Int) (R B E S:Bool) (D V A:Int) (dv:Value) (R0:Nat) (v:Value) (l:List Nat) (w:World) (h:z1k w 205 R0 v l) (hi:i < 536870912) (hl:l.length<=100000) :
    Calls Tryz.prog 149 #[.agg #[.int .i64 K,.int .u32 i,.bool true,.bool R,.bool B,.bool E,.bool S,.int .u8 D,.int .u8 V,.int .u32 A,dv],.func (.func 148) #[.pointer (some ⟨R0,0,none⟩)] #[]] w fun e w'=>e = .returned (.tuple #[])/\zm w 205 R0 v (l++zJ true R i) w':=by
 obtain⟨w1,hw1⟩:∃w1,w1=w.alloc (.cells #[.int .i64 K,.int .u32 i,.bool true,.bool R,.bool B,.bool E,.bool S,.int .u8 D,.int .u8 V,.int .u32 A,dv] 37):=⟨_,rfl⟩
 have bx:Blk w1 w.heap.size #[.int .i64 K,.int .u32 i,.bool true,.bool R,.bool B,.bool E,.bool S,.int .u8 D,.int .u8 V,.int .u32 A,dv] 37:=by rw[hw1];exact Blk.new _ _ _
 have r1:z1k w1 205 R0 v l:=h.keep (F:=fun _=>False) (by rw[hw1];exact Kp.alloc) (by simp)
 have k1:Kp (z2V R0 v) w1 w1:=Kp.rfl
 have f1:∀k,z2V R0 v k->z2V R0 v k\/w1.heap.size<=k:=fun _ h => .inl h
 have hnb:¬z2V R0 v w.heap.size:=fun hf=>by have:=h.lt _ hf;omega
 have K0:=zH (show Kp (z2V R0 v) w w1 from by rw[hw1];exact Kp.alloc)
 have BX:=zH bx
 have HNB:=zH hnb
 have E1:=zH (show((i / 262144:Nat):Int)=(i:Int) / 262144 from by omega)
 have E2:=zH (zm0 i (by omega))
 clear bx hnb h
 go_enter Tryz.func149,Tryz.ntmps149
 go_wp2_with fail
 rw[<- hw1]
 clear hw1
 refine(zO R0 v _ 0 1 _ r1 (by omega) (by omega) (by decide) (by(try simp only[List.length_append,zb]);omega)).mono ?_
 rintro e w2 ⟨rfl,s2⟩
 obtain⟨v2,r2,k2,f2⟩:=zm.tr2 k1 f1 s2
 clear s2 r1 k1 f1
 obtain⟨c0,c1,c2,c3,c4,c5,c6,c7,c8,c9,c10⟩:=(BX.out.keep k2 HNB.out).c11
 go_wp2_with fail
 have hc:=zO R0 v2 _ (i / 262144) 11 w2 r2 (by omega) (by omega) (by omega) (by(try simp only[List.length_append,zb]);omega)
 rw[E1.out]at hc
 refine hc.mono ?_
 clear hc
 rintro e w3 ⟨rfl,s3⟩
 obtain⟨v3,r3,k3,f3⟩:=zm.tr2 k2 f2 s3
 clear s3 r2 k2 f2
 obtain⟨c0,c1,c2,c3,c4,c5,c6,c7,c8,c9,c10⟩:=(BX.out.keep k3 HNB.out).c11
 go_wp2_with fail
 refine(zO R0 v3 _ 3 2 _ r3 (by omega) (by omega) (by decide) (by(try simp only[List.length_append,zb]);omega)).mono ?_
 rintro e w4 ⟨rfl,s4⟩
 obtain⟨v4,r4,k4,f4⟩:=zm.tr2 k3 f3 s4
 clear s4 r3 k3 f3
 obtain⟨c0,c1,c2,c3,c4,c5,c6,c7,c8,c9,c10⟩:=(BX.out.keep k4 HNB.out).c11
 go_wp2_with fail
 have hc:=zO R0 v4 _ (i%262144) 18 w4 r4 (by omega) (by omega) (by omega) (by(try simp only[List.length_append,zb]);omega)
 rw[<- E2.out]at hc
 refine hc.mono ?_
 clear hc
 rintro e w5 ⟨rfl,s5⟩
 obtain⟨v5,r5,k5,f5⟩:=zm.tr2 k4 f4 s5
 clear s5 r4 k4 f4
 obtain⟨c0,c1,c2,c3,c4,c5,c6,c7,c8,c9,c10⟩:=(BX.out.keep k5 HNB.out).c11
 go_wp2_with fail
 refine(z2N R _).mono ?_
 rintro e w6 ⟨rfl,rfl⟩
 go_wp2_with fail
 refine(zO R0 v5 _ (zP R) 1 _ r5 (by omega) (by omega) (by have:=zQ R;omega) (by(try simp only[List.length_append,zb]);omega)).mono ?_
 rintro e w6 ⟨rfl,s6⟩
 obtain⟨v6,r6,k6,f6⟩:=zm.tr2 k5 f5 s6
 clear s6 r5 k5 f5
 obtain⟨c0,c1,c2,c3,c4,c5,c6,c7,c8,c9,c10⟩:=(BX.out.keep k6 HNB.out).c11
 go_wp2_with fail
 refine(zO R0 v6 _ 0 2 _ r6 (by omega) (by omega) (by decide) (by(try simp only[List.length_append,zb]);omega)).mono ?_
 rintro e w7 ⟨rfl,s7⟩
 obtain⟨v7,r7,k7,f7⟩:=zm.tr2 k6 f6 s7
 clear s7 r6 k6 f6
 obtain⟨c0,c1,c2,c3,c4,c5,c6,c7,c8,c9,c10⟩:=(BX.out.keep k7 HNB.out).c11
 go_wp2
 go_end0
 refine⟨rfl,zm.tr2 K0.out (fun _ h => .inl h) ⟨_,?_,k7,f7⟩⟩
 have e:l++zJ true R i=l++zc 0 1++zc (i / 262144) 11++zc 3 2++zc (i%262144) 18++zc (zP R) 1++zc 0 2:=by simp[zJ,z4W,zb9,zbn,z4Q]
 rw[e]
 exact r7
theorem za9 (X R:Bool) (i:Nat) (K:Int) (B E S:Bool) (D V A:Int) (dv:Value) (R0:Nat) (v:Value) (l:List Nat) (w:World) (h:z1k w 205 R0 v l) (hi:i < 536870912) (hx:X=false->i < 2048) (hl:l.length<=100000) :
    Calls Tryz.prog 149 #[.agg #[.int .i64 K,.int .u32 i,.bool X,.bool R,.bool B,.bool E,.bool S,.int .u8 D,.int .u8 V,.int .u32 A,dv],.func (.func 148) #[.pointer (some ⟨R0,0,none⟩)] #[]] w fun e w'=>e = .returned (.tuple #[])/\zm w 205 R0 v (l++zJ X R i) w':=by
 cases X with
 | false=>exact zaq i K R B E S D V A dv R0 v l w h hi (hx rfl) hl
 | true=>exact z9Y i K R B E S D V A dv R0 v l w h hi hl
theorem zeA (f:Hd) (a:Option Addr) (cap:Nat) (l:List Nat) (w:World) (hL:l.length<=9223372036854775807) (hK:(f.K==1)=false) :
    Calls Tryz.prog 127 #[.agg (f.cs (.slice a l.length cap))] w fun e w'=>z6c w [] 0 2 e w'/\Nb w w':=by
 obtain⟨K,I,X,R,B,E,S,D,V,A⟩:=f
 simp only[Hd.cs]
 have d:(K != 1)=true:=by simpa [bne]using hK
 clear hK
 go_enter Tryz.func127,Tryz.ntmps127
 go_wp2
 go_ret3
 exact⟨⟨_,_,rfl,zf.nil _ _⟩,Nb.rfl.al _⟩
theorem zcf (f:Hd) (a:Option Addr) (cap:Nat) (l:List Nat) (w:World) (h:Bs w a cap l) (hl:zV w) (hK:f.K=1) (ho:okF f l=false) :
    Calls Tryz.prog 127 #[.agg (f.cs (.slice a l.length cap))] w fun e w'=>z6c w [] 0 2 e w'/\Nb w w':=by
 have hL:=h.len
 have hc:=z0J f a cap l _ (h.below (Nb.rfl.al (.cells (f.cs (.slice a l.length cap)) 37))) (hl.below (Nb.rfl.al (.cells (f.cs (.slice a l.length cap)) 37)))
 rw[show zt f l=2 by simp[zt,ho]]at hc
 obtain⟨K,I,X,R,B,E,S,D,V,A⟩:=f
 simp only at hK
 subst hK
 simp only[Hd.cs]at hc ⊢
 have HC:=zH hc
 clear hc h hl ho
 go_enter Tryz.func127,Tryz.ntmps127
 go_wp2_with fail
 refine HC.out.mono ?_
 rintro e w1 ⟨rfl,n1⟩
 go_wp2
 go_ret3
 exact⟨⟨_,_,rfl,zf.nil _ _⟩,(Nb.rfl.al _).tr n1⟩
theorem zfK (X R:Bool) (i:Nat) (a:Option Addr) (cap:Nat) (l:List Nat) (w:World) (h:Bs w a cap l) (hok:okC ⟨1,(i:Int),X,R,false,false,false,0,0,0⟩ l=true) (hk:z1r w) (hl:zV w) :
    Calls Tryz.prog 127 #[.agg (Hd.cs ⟨1,(i:Int),X,R,false,false,false,0,0,0⟩ (.slice a l.length cap))] w fun e w'=>z6c w (zS X R i l) (zJ X R i).length 0 e w'/\Nb w w':=by
 obtain⟨j,_,ej,h8,_,hx,hi⟩:=z1u hok (Int.natCast_nonneg i)
 have ej':i=j:=by simpa using ej
 subst ej'
 simp only at hx
 have hokF:okF ⟨1,(i:Int),X,R,false,false,false,0,0,0⟩ l=true:=by simpa [okC]using hok
 have P1:=zH (fun w' (n:Nb w w')=>by
  have:=z0J ⟨1,(i:Int),X,R,false,false,false,0,0,0⟩ a cap l w' (h.below n) (hl.below n)
  rw[show zt ⟨1,(i:Int),X,R,false,false,false,0,0,0⟩ l=0 by simp[zt,hokF]]at this
  simp only[Hd.cs]at this
  exact this)
 have P2:=zH (fun w' (n:Nb w w')=>by
  have:=z4X 1 (l.length:Int) w' (hl.below n)
  rw[(zjM h8).1,(zjM h8).2]at this
  exact this)
 have hpl:(z1q X R i l).length<=10000:=by rw[z3d];split<;>omega
 have hch:chk (z1q X R i l)=true:=z0g (z53 X R i l) (by omega)
 have hsum:=z2Y (k:=1) (l:=z1q X R i l) (by decide) hch
 have P3:=zH (fun w' (a':Option Addr) (c':Nat) (n:Nb w w') (hb:Bs w' a' c' (z1q X R i l)) (hn:a'=none->c'=0)=>by
  have:=ziB 1 a' c' (z1q X R i l) w' (hk.below n) hb hn
  rw[hsum.1,hsum.2,show z1q X R i l++z1R 1 (z1q X R i l)=zS X R i l from rfl]at this
  exact this)
 have hne:(z1q X R i l).length≠0:=by rw[z3d];split<;>omega
 have HNE:=zH hne
 have HL:=zH h
 have hhl:=z2b X R i
 have hhl2:(zJ X R i).length<=35:=by rw[hhl];split<;>omega
 have hmf:∀(fn:Fn) (first cap:Array Value) (w:World),(Instr.makeFunc fn first cap).run Tryz.prog w = .ok (.func fn first cap) w:=fun _ _ _ _=>rfl
 have HX:=zH hx
 have hL:=h.len
 have hbl:∀k,k<=l.length->(zJ X R i++zc l.length 4++ze (l.take k)).length<=1000:=by
  intro k hkl
  rw[List.length_append,List.length_append,zb,zN,List.length_take]
  omega
 have HBL:=zH hbl
 have EP:=zH (show zJ X R i++zc l.length 4++ze l=z1q X R i l by rw[z1q,List.append_assoc])
 clear h hok hokF hk hl hx hch hsum hne hpl hhl hbl
 simp only[Hd.cs]
 go_enter Tryz.func127,Tryz.ntmps127
 go_wp2_with fail
 refine(P1.out _ (Nb.rfl.al _)).mono ?_
 rintro e w2 ⟨rfl,n2⟩
 have m2:Nb w w2:=(Nb.rfl.al _).tr n2
 have b2:=(Blk.new w _ _).nb n2
 obtain⟨c0,c1,c2,c3,c4,c5,c6,c7,c8,c9,c10⟩:=b2.c11
 go_wp2_with fail
 refine(P2.out _ m2).mono ?_
 rintro e w3 ⟨rfl,n3⟩
 have m3:Nb w w3:=m2.tr n3
 have hs3:w.heap.size+1<=w3.heap.size:=by have:=(n2.tr n3).size;simpa using this
 have b3:=zH (b2.nb n3)
 have lt3:w.heap.size < w3.heap.size:=hs3
 have ne3:¬w.heap.size=w3.heap.size:=by omega
 clear b2 n2 n3 m2
 obtain⟨c0,c1,c2,c3,c4,c5,c6,c7,c8,c9,c10⟩:=b3.out.c11
 go_wp2_with fail
 obtain⟨w4,hw4⟩:∃w4,w4=w3.alloc (.cells #[.slice none 0 0] 205):=⟨_,rfl⟩
 have r4:z1k w4 205 w3.heap.size (.slice none 0 0) []:=by rw[hw4];exact⟨Blk.new _ _ _,z04.nil _,by simp[Value.ownBlock]⟩
 have m4:Nb w w4:=by rw[hw4];exact m3.al _
 have b4:=zH (b3.out.nb (show Nb w3 w4 by rw[hw4];exact Nb.rfl.al _))
 have NF:=zH (show ¬z2V w3.heap.size (.slice none 0 0) w.heap.size by rintro(h | h);omega;simp[Value.ownBlock]at h)
 have hR:w.heap.size<=w3.heap.size:=by omega
 rw[<- hw4]
 clear hw4
 refine(za9 X R i _ _ _ _ _ _ _ _ _ _ _ _ r4 hi HX.out (by simp)).mono ?_
 rintro e w5 ⟨rfl,s5⟩
 rw[List.nil_append]at s5
 have S5:=zH s5
 obtain⟨a5,d5,y5,f5⟩:=s5.fresh m4 hR
 clear f5
 have b5:=s5.blk b4.out NF.out
 obtain⟨c0,c1,c2,c3,c4,c5,c6,c7,c8,c9,c10⟩:=b5.c11
 clear s5 b5 r4
 go_wp2_with fail
 obtain⟨v5,r5,k5,f5⟩:=S5.out
 refine(zO w3.heap.size v5 _ l.length 4 _ r5 (by omega) (by omega) (by omega) (by omega)).mono ?_
 rintro e w6 ⟨rfl,s6⟩
 have S6:=zH (zm.tr2 k5 f5 s6)
 clear s6 r5 k5 f5
 have b6:=S6.out.blk b4.out NF.out
 obtain⟨c0,c1,c2,c3,c4,c5,c6,c7,c8,c9,c10⟩:=b6.c11
 clear b6 y5
 go_wp2_with fail
 obtain⟨v5,r5,k5,f5⟩:=S6.out
 refine(z4c w3.heap.size v5 _ a cap l _ r5 (HL.out.below (S6.out.below m4 hR)) (by rw[List.length_append,zb];omega) (by have:=HBL.out 0 (by omega);simp[ze]at this;simp;omega) (by omega)).mono ?_
 rintro e w7 ⟨rfl,s7⟩
 have s8:=zm.tr2 k5 f5 s7
 rw[EP.out]at s8
 have nr:Nb w w7:=s8.below m4 hR
 obtain⟨a7,d7,y7,f7⟩:=s8.fresh m4 hR
 have F7:=zH f7
 clear s8 s7 f7 r5 k5 f5 HBL S6 S5
 go_wp2_with fail
 obtain⟨u1,u2⟩:=F7.out.bs
 refine(P3.out _ a7 d7 nr u1 u2).mono ?_
 rintro e w8 ⟨⟨a8,c8',rfl,f8⟩,n8⟩
 have F8:=zH (show zf w w8 _ _ from⟨f8.1,fun g hg=>Nat.le_trans nr.size (f8.2 g hg)⟩)
 clear f8 u1 u2 EP
 go_wp2
 go_ret3
 exact⟨⟨a8,c8',rfl,F8.out⟩,nr.tr n8⟩
theorem z6m (f:Hd) (a:Option Addr) (cap:Nat) (l:List Nat) (w:World) (h:Bs w a cap l) (hI:0<=f.I) (hk:z1r w) (hl:zV w) :
    Calls Tryz.prog 127 #[.agg (f.cs (.slice a l.length cap))] w fun e w'=>z6c w (zT f l) (zhn f l) (okE f l) e w'/\Nb w w':=by
 cases hok:okC f l with
 | true =>
   obtain⟨i,ef,et,_⟩:=z1u hok hI
   rw[show zT f l=zS f.X f.R i l by rw[zT,if_pos hok,et],show zhn f l=(zJ f.X f.R i).length by rw[zhn,if_pos hok,et],show okE f l=0 by rw[okE,if_pos hok]]
   have hok2:okC ⟨1,(i:Int),f.X,f.R,false,false,false,0,0,0⟩ l=true:=by rw[<- ef];exact hok
   have:=zfK f.X f.R i a cap l w h hok2 hk hl
   rw[<- ef]at this
   exact this
 | false =>
   rw[show zT f l=[] by simp[zT,hok],show zhn f l=0 by simp[zhn,hok],show okE f l=2 by simp[okE,hok]]
   cases hK:f.K==1 with
   | false=>exact zeA f a cap l w h.len hK
   | true=>exact zcf f a cap l w h hl (by simpa using hK) (by simpa [okC,hK]using hok)
theorem zew (f:Hd) (a:Option Addr) (cap:Nat) (l:List Nat) (w:World) (h:Bs w a cap l) (hI:0<=f.I) (hk:z1r w) (hl:zV w) (hok:okC f l=false) :
    Calls Tryz.prog 110 #[.agg (f.cs (.slice a l.length cap))] w fun e w'=>z4B w [] 0 0 2 e w'/\Nb w w':=by
 have hL:=h.len
 have hp:=fun w' (n:Nb w w')=>z6m f a cap l w' (h.below n) hI (hk.below n) (hl.below n)
 rw[show zT f l=[] by simp[zT,hok],show zhn f l=0 by simp[zhn,hok],show okE f l=2 by simp[okE,hok]]at hp
 obtain⟨K,I,X,R,B,E,S,D,V,A⟩:=f
 simp only[Hd.cs]at hp ⊢
 have HP:=zH hp
 clear hp h hk hl hI hok
 go_enter Tryz.func110,Tryz.ntmps110
 go_wp2_with fail
 refine(HP.out _ ((Nb.rfl.al _).al _)).mono ?_
 rintro e w1 ⟨⟨a1,c1,rfl,f1⟩,n1⟩
 have m1:Nb w w1:=((Nb.rfl.al _).al _).tr n1
 have hx:=(Blk.new (w.alloc (.cells #[.int .i64 K,.int .u32 I,.bool X,.bool R,.bool B,.bool E,.bool S,.int .u8 D,.int .u8 V,.int .u32 A,.slice a l.length cap] 37)) #[.slice none 0 0,.int .i64 0,.int .i64 0] 52).nb n1
 rw[World.size_alloc]at hx
 obtain⟨d0,d1,d2⟩:=hx.c3
 obtain⟨g0,g1,g2⟩:=hx.f3
 have HB:=zH (z0n (v0 := .slice none 0 0) (v1 := .int .i64 0) (v2 := .int .i64 0) hx)
 have HW:=zH (z0P m1 (b:=w.heap.size+1) (by omega) (.slice none 0 0) (.int .i64 0) (.int .i64 0))
 clear f1 n1 hx m1
 go_wp2
 change bodyPost _ _ _ _ _ (put3 w1 (w.heap.size+1) (.slice none 0 0) (.int .i64 0) (.int .i64 0))
 generalize put3 w1 (w.heap.size+1) (.slice none 0 0) (.int .i64 0) (.int .i64 0)=W at *
 obtain⟨e0,e1,e2⟩:=HB.out.c3
 exact bodyPost_ret (v := .tuple #[.agg #[.slice none 0 0,.int .i64 0,.int .i64 0],.int .i64 2]) (by simp[results,Tryz.results110,go_sem,e0,e1,e2]) rfl ⟨⟨none,0,rfl,zf.nil _ _⟩,HW.out⟩
theorem zgT (f:Hd) (a:Option Addr) (cap:Nat) (l:List Nat) (w:World) (h:Bs w a cap l) (hI:0<=f.I) (hk:z1r w) (hl:zV w) (hok:okC f l=true) :
    Calls Tryz.prog 110 #[.agg (f.cs (.slice a l.length cap))] w fun e w'=>z4B w (z0M f l) (z1S f l) (z27 f l) 0 e w'/\Nb w w':=by
 have hL:=h.len
 obtain⟨i,ef,et,h8,_,hx,hi⟩:=z1u hok hI
 have hp:=fun w' (n:Nb w w')=>z6m f a cap l w' (h.below n) hI (hk.below n) (hl.below n)
 have hbl:=z6P hok
 have hb1:(zT f l).length<=200:=by rw[hbl];split<;>omega
 have hch:chk (zT f l)=true:=z0g z54 (by omega)
 have hh:(zJ f.X f.R f.I.toNat).length<=(zT f l).length:=by rw[hbl,z2b];split<;>omega
 have hbe:zT f l=zS f.X f.R f.I.toNat l:=by rw[zT,if_pos hok]
 have hp2:=fun w' (a':Option Addr) (c':Nat) (hb:Bs w' a' c' (zT f l))=>by
  have:=z8J a' c' (zT f l) _ w' hb hch (by omega) hh
  rw[show(zT f l).take (zJ f.X f.R f.I.toNat).length=zJ f.X f.R f.I.toNat by rw[hbe];exact zcK _ _ _ _]at this
  exact this
 rw[show z0M f l=zh (zT f l)++ones 10 by rw[z0M,if_pos hok],show z1S f l=(zh (zJ f.X f.R f.I.toNat)).length by rw[z1S,if_pos hok],show z27 f l=(zh (zT f l)).length+1 by rw[z27,if_pos hok]]
 rw[show zhn f l=(zJ f.X f.R f.I.toNat).length by rw[zhn,if_pos hok],show okE f l=0 by rw[okE,if_pos hok]]at hp
 have hpl:=(zr (zT f l)).1
 have hpl2:(zh (zT f l)).length<=1000:=by omega
 have HP:=zH hp
 have HP2:=zH hp2
 clear hp hp2 h hk hl hI hok hh hbe hch hbl hpl hx hi et ef
 generalize zT f l=L at *
 generalize zJ f.X f.R f.I.toNat=H at *
 generalize zh L=P at *
 generalize (zh H).length=N at *
 obtain⟨K,I,X,R,B,E,S,D,V,A⟩:=f
 simp only[Hd.cs]at HP ⊢
 go_enter Tryz.func110,Tryz.ntmps110
 go_wp2_with fail
 refine(HP.out _ ((Nb.rfl.al _).al _)).mono ?_
 rintro e w1 ⟨⟨a1,c1,rfl,f1⟩,n1⟩
 have m1:Nb w w1:=((Nb.rfl.al _).al _).tr n1
 have hx1:=(Blk.new (w.alloc (.cells #[.int .i64 K,.int .u32 I,.bool X,.bool R,.bool B,.bool E,.bool S,.int .u8 D,.int .u8 V,.int .u32 A,.slice a l.length cap] 37)) #[.slice none 0 0,.int .i64 0,.int .i64 0] 52).nb n1
 rw[World.size_alloc]at hx1
 have HX1:=zH hx1
 have B1:=zH f1.bs.1
 clear f1 n1 hx1
 go_wp2_with fail
 refine(HP2.out _ a1 c1 B1.out).mono ?_
 rintro e w2 ⟨⟨a2,c2,rfl,f2⟩,n2⟩
 have m2:=m1.tr n2
 have HX2:=zH (HX1.out.nb n2)
 have F2:=zH f2
 clear f2 n2
 go_wp2_with fail
 refine(z5F a2 c2 P N _ F2.out.bs.1 F2.out.bs.2 (by omega)).mono ?_
 rintro e w5 ⟨⟨a5,c5,rfl,f5⟩,n5⟩
 have m5:=m2.tr n5
 have hx5:=HX2.out.nb n5
 obtain⟨d0,d1,d2⟩:=hx5.c3
 obtain⟨g0,g1,g2⟩:=hx5.f3
 have s2:w.heap.size+2<=w2.heap.size:=HX2.out.lt
 have hfr:∀g,(Value.slice a5 (P++ones 10).length c5).ownBlock=some g->w.heap.size+2<=g:=fun g hg=>by
  have:=f5.2 g hg
  omega
 have HB:=zH (z0n (v0 := .slice a5 (P++ones 10).length c5) (v1 := .int .i64 N) (v2 := .int .i64 ((P.length+1:Nat):Int)) hx5)
 have HW:=zH (z0P m5 (b:=w.heap.size+1) (by omega) (.slice a5 (P++ones 10).length c5) (.int .i64 N) (.int .i64 ((P.length+1:Nat):Int)))
 have HF:=zH (show zf w (put3 w5 (w.heap.size+1) (.slice a5 (P++ones 10).length c5) (.int .i64 N) (.int .i64 ((P.length+1:Nat):Int))) (.slice a5 (P++ones 10).length c5) (P++ones 10) from⟨f5.1.put3 (fun g hg=>by have:=hfr g hg;omega) _ _ _,fun g hg=>by have:=hfr g hg;omega⟩)
 obtain⟨Q,hQ⟩:∃Q,Q=P++ones 10:=⟨_,rfl⟩
 rw[<- hQ]at HB HW HF
 have HQ:=zH hQ
 rw[<- hQ]
 obtain⟨K2,hK2⟩:∃K2:Int,K2=((P.length+1:Nat):Int):=⟨_,rfl⟩
 rw[<- hK2]at HB HW HF
 rw[<- hK2]
 have HK2:=zH hK2
 clear f5 n5 hx5 hfr hQ hK2 m1 m2 m5
 go_wp2
 change bodyPost _ _ _ _ _ (put3 w5 (w.heap.size+1) (.slice a5 Q.length c5) (.int .i64 N) (.int .i64 K2))
 generalize put3 w5 (w.heap.size+1) (.slice a5 Q.length c5) (.int .i64 N) (.int .i64 K2)=W at *
 obtain⟨e0,e1,e2⟩:=HB.out.c3
 exact bodyPost_ret (v := .tuple #[.agg #[.slice a5 Q.length c5,.int .i64 N,.int .i64 K2],.int .i64 0]) (by simp[results,Tryz.results110,go_sem,e0,e1,e2]) rfl ⟨⟨a5,c5,by rw[HQ.out,HK2.out];rfl,by rw[<- HQ.out];exact HF.out⟩,HW.out⟩
theorem zcV (f:Hd) (a:Option Addr) (cap:Nat) (l:List Nat) (w:World) (h:Bs w a cap l) (hI:0<=f.I) (hk:z1r w) (hl:zV w) :
    Calls Tryz.prog 110 #[.agg (f.cs (.slice a l.length cap))] w fun e w'=>z4B w (z0M f l) (z1S f l) (z27 f l) (okE f l) e w'/\Nb w w':=by
 cases hok:okC f l with
 | true =>
   rw[show okE f l=0 by rw[okE,if_pos hok]]
   exact zgT f a cap l w h hI hk hl hok
 | false =>
   rw[show okE f l=2 by simp[okE,hok],show z0M f l=[] by simp[z0M,hok],show z1S f l=0 by simp[z1S,hok],show z27 f l=0 by simp[z27,hok]]
   exact zew f a cap l w h hI hk hl hok
theorem zdx : Tryz.prog.globalNamed "omnibus/frame.longer" = some 0 := by kernel_rfl
theorem zij:(Tryz.prog.globals[0]?).map (·.type)=some 177:=by kernel_rfl
theorem zd0:Tryz.prog.cellsOf 3=1:=by kernel_rfl
theorem zfu {W : World} (h : laidMetH Tryz.prog [("omnibus/frame.longer", Rows.laid_omnibus_frame_longer)] W) : zV W := by
 rw[MakeChecks.laidMetH_plain _ _ _ (by kernel_rfl)]at h
 obtain⟨ps,⟨g0,t0,cs0,f0,p0,q0,hg0,ht0,hv0,hd0,_,_⟩,_,_⟩:=h
 obtain rfl:=Option.some.inj (zdx.symm.trans hg0)
 obtain rfl:=Option.some.inj (zij.symm.trans ht0)
 obtain⟨xs,m1,rfl,hx1,hlen,hn7,hel⟩:=DataW.trod_array Tryz.underlying177 hd0
 rw[zd0]at hel
 simp only[Prod.mk.injEq]at hx1
 obtain⟨hx1,_⟩:=hx1
 have hrow:∀i a p,i < 7->xs[i]? = some (.lit (.int .i64 a),p)->cs0.toList[i]? = some (.int .i64 a):=by
  intro i a p hi hx
  obtain⟨n0,c0,e0,_⟩:=DataW.trod_int Tryz.underlying3 ((hel i hi).trans hx)
  simp only[Prod.mk.injEq,DataW.lit.injEq,Lit.int.injEq,true_and]at e0
  obtain⟨rfl,_⟩:=e0
  have:=congrArg (·[0]?) c0
  simpa [List.getElem?_take,List.getElem?_drop]using this
 intro c hc
 rw[World.var?_cell zdx hv0 c]
 rw[<- Array.getElem?_toList]
 match xs,hn7,hx1,hrow with
 | [(d0,p0),(d1,p1),(d2,p2),(d3,p3),(d4,p4),(d5,p5),(d6,p6)],_,hx1,hrow =>
   simp only[Rows.laid_omnibus_frame_longer,List.map_cons,List.map_nil,DataW.agg.injEq,List.cons.injEq,and_true]at hx1
   obtain⟨rfl,rfl,rfl,rfl,rfl,rfl,rfl⟩:=hx1
   rcases(by omega:c=0\/c=1\/c=2\/c=3\/c=4\/c=5\/c=6)with rfl | rfl | rfl | rfl | rfl | rfl | rfl
   ·exact hrow 0 _ _ (by decide) rfl
   ·exact hrow 1 _ _ (by decide) rfl
   ·exact hrow 2 _ _ (by decide) rfl
   ·exact hrow 3 _ _ (by decide) rfl
   ·exact hrow 4 _ _ (by decide) rfl
   ·exact hrow 5 _ _ (by decide) rfl
   ·exact hrow 6 _ _ (by decide) rfl
def z0i(w:World):Prop:=z1r w/\zV w
theorem z0i.below{w w':World}(h:z0i w)(hb:Nb w w'):z0i w':=⟨h.1.below hb,h.2.below hb⟩
theorem zls {W : World} (h : laidMetH Tryz.prog [("omnibus/crc.kinds", Rows.laid_omnibus_crc_kinds), ("omnibus/frame.longer", Rows.laid_omnibus_frame_longer)] W) : z0i W :=
 ⟨zhI (h.filter fun x => x.1 == "omnibus/crc.kinds"), zfu (h.filter fun x => x.1 == "omnibus/frame.longer")⟩
end Go.Proofs.YtplbmlpdefpplaaGreatDoor
