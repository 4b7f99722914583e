
/- The document's own bits of a Classic frame: Bit, Tail, the head. No conditions but sizes. -/
import Derived.Test.YtplbmlpdefpplaaGreatDoorClaP
import Derived.Test.YtplbmlpdefpplaaGreatDoorGt
import Derived.Test.YtplbmlpdefpplaaGreatDoorGr
set_option maxHeartbeats 4000000
set_option maxRecDepth 100000
namespace Go.Proofs.YtplbmlpdefpplaaGreatDoor
set_option linter.unusedVariables false
set_option linter.unusedSimpArgs false
open Go.RowKit
variable {l:List Nat}
theorem z04.lit (w:World) (l:List Nat) (cs:Array Value) (hc:cs.toList=l.map fun x:Nat=>Value.int .u8 (x:Int)) (n:Nat) (hn:n=l.length) (hl:l.length<=1000) (hb:∀x∈l,x < 256) :
    z04 (w.alloc (.cells cs 5)) (.slice (some ⟨w.heap.size,0,none⟩) n n) l:=by
 subst hn
 refine⟨⟨by simp,.inr ⟨w.heap.size,l.length,cs,rfl,Nat.zero_le _,heap_alloc_new w _,Nat.le_refl _,by unfold maxLen;omega,?_,?_⟩⟩,hb⟩
 ·rw[<- Array.length_toList,hc];simp
 ·rw[hc];simp[List.take_of_length_le]
theorem z2o(b:Bool)(w:World):Calls Tryz.prog 82 #[.bool b] w fun e w'=>e = .returned (.int .u8 (zP b:Nat))/\w=w':=by
 cases b
 all_goals go_enter Tryz.func82,Tryz.ntmps82
 all_goals go_wp2
 all_goals go_ret
 all_goals exact⟨rfl,rfl⟩
theorem z5B(w:World):Calls Tryz.prog 54 #[] w fun e w'=>(∃a c,e = .returned (.slice a 10 c)/\zf w w' (.slice a 10 c) (ones 10))/\Nb w w':=by
 have h:=zH (z04.lit w (ones 10) #[.int .u8 1,.int .u8 1,.int .u8 1,.int .u8 1,.int .u8 1,.int .u8 1,.int .u8 1,.int .u8 1,.int .u8 1,.int .u8 1] (by simp[ones,List.replicate]) 10 (by simp[ones]) (by simp[ones]) (by simp[ones]))
 go_enter Tryz.func54,Tryz.ntmps54
 go_wp2
 go_ret
 exact⟨⟨_,_,rfl,h.out,by intro g hg;simp[Value.ownBlock]at hg;omega⟩,Nb.rfl.al _⟩
theorem zf.app0{w0 w w':World}{v v':Value}{l':List Nat}(h:zf w0 w v l)(hnb:Nb w0 w)(ho:z04 w' v' l')(hk:Kp (fun k=>v.ownBlock=some k) w w')(hf:∀g,v'.ownBlock=some g->v.ownBlock=some g\/w.heap.size<=g):zf w0 w' v' l'/\Nb w0 w':=by
 have hs:=hnb.size
 refine⟨⟨ho,fun g hg => ?_⟩,hnb.trans (hk.toBelow hs h.2)⟩
 rcases hf g hg with h1 | h1
 ·exact h.2 g h1
 ·omega
theorem zf.lit (w:World) (l:List Nat) (cs:Array Value) (hc:cs.toList=l.map fun x:Nat=>Value.int .u8 (x:Int)) (n:Nat) (hn:n=l.length) (hl:l.length<=1000) (hb:∀x∈l,x < 256) :
    zf w (w.alloc (.cells cs 5)) (.slice (some ⟨w.heap.size,0,none⟩) n n) l:=⟨z04.lit w l cs hc n hn hl hb,by intro g hg;simp[Value.ownBlock]at hg;omega⟩
theorem Bs.noneN{w:World}{a:Option Addr}{c n:Nat}(h:Bs w a c l)(hn:l.length=n)(h0:0 < n):a=none->n=0/\c=0:=by
 rintro rfl
 have:=h.none_len
 subst this
 simp at hn
 omega
theorem zf.less{w w1 w2:World}{v:Value}(h:zf w1 w2 v l)(hs:w.heap.size<=w1.heap.size):zf w w2 v l:=⟨h.1,fun g hg=>Nat.le_trans hs (h.2 g hg)⟩
theorem z9X (i:Nat) (K:Int) (R B E S:Bool) (D V A:Int) (dv:Value) (w:World) (hi:i < 536870912) :
    Calls Tryz.prog 62 #[.agg #[.int .i64 K,.int .u32 i,.bool false,.bool R,.bool B,.bool E,.bool S,.int .u8 D,.int .u8 V,.int .u32 A,dv]] w fun e w'=>(∃a c,e = .returned (.slice a (zJ false R i).length c)/\zf w w' (.slice a (zJ false R i).length c) (zJ false R i))/\Nb w w':=by
 obtain⟨w1,hw1⟩:∃w1,w1=w.alloc (.cells #[.int .i64 K,.int .u32 i,.bool false,.bool R,.bool B,.bool E,.bool S,.int .u8 D,.int .u8 V,.int .u32 A,dv] 37):=⟨_,rfl⟩
 have BX:=zH (show Blk w1 w.heap.size #[.int .i64 K,.int .u32 i,.bool false,.bool R,.bool B,.bool E,.bool S,.int .u8 D,.int .u8 V,.int .u32 A,dv] 37 by rw[hw1];exact Blk.new _ _ _)
 have NW:=zH (show Nb w w1 by rw[hw1];exact Nb.rfl.al _)
 have hs1:w1.heap.size=w.heap.size+1:=by rw[hw1,World.size_alloc]
 have fl1:=zf.lit w1 [0] #[.int .u8 0] (by simp) 1 (by simp) (by simp) (by simp)
 rw[hs1]at fl1
 have F1:=zH fl1
 clear fl1 hs1
 have N1:=zH (Nb.rfl.al (.cells #[.int .u8 0] 5):Nb w1 _)
 have HI:=zH hi
 go_enter Tryz.func62,Tryz.ntmps62
 go_wp2_with fail
 rw[<- hw1]
 clear hw1 hi
 have hc2:=fun wz=>z06 (i) 11 wz (by have:=HI.out;omega) (by omega)
 refine(hc2 _).mono ?_
 clear hc2
 rintro e w2 ⟨⟨a2,d2,rfl,b2⟩,n2⟩
 have hf2:=F1.out.keep n2
 have hn2:=N1.out.tr n2
 obtain⟨c0,c1,c2,c3,c4,c5,c6,c7,c8,c9,c10⟩:=(BX.out.nb hn2).c11
 clear n2
 go_wp2_with (at_builtin;refine zd _ rfl (.tmp 8) (.tmp 12) rfl (.slice (some ⟨w.heap.size+1,0,none⟩) 1 1) [0] rfl hf2.1 a2 d2 (zc (i) 11) 11 (zb _ _).symm rfl b2 (b2.noneN (zb _ _) (by omega)) (by simp[zb]) ?_)
 intro v3 w3 ho hk hg
 obtain⟨f3,n3⟩:=hf2.app0 hn2 ho hk hg
 have F3:=zH f3
 have N3:=zH n3
 clear ho hk hg hf2 hn2 b2 f3 n3 c0 c1 c2 c3 c4 c5 c6 c7 c8 c9 c10
 obtain⟨c0,c1,c2,c3,c4,c5,c6,c7,c8,c9,c10⟩:=(BX.out.nb N3.out).c11
 go_wp2_with fail
 refine(z2o R _).mono ?_
 rintro e wz ⟨rfl,rfl⟩
 clear c0 c1 c2 c3 c4 c5 c6 c7 c8 c9 c10
 have fl3:=zf.lit w3 [zP R,0,0] #[.int .u8 (zP R),.int .u8 0,.int .u8 0] (by simp) 3 (by simp) (by simp) (by intro x hx;simp at hx;have:=zQ R;omega)
 have fk3:=F3.out.keep (Nb.rfl.al (.cells #[.int .u8 (zP R),.int .u8 0,.int .u8 0] 5))
 go_wp2_with (at_builtin;refine zd _ rfl (.tmp 14) (.tmp 18) rfl v3 _ rfl fk3.1 _ _ [zP R,0,0] 3 rfl rfl fl3.1.asBs.1 (by simp) (by simp[zb]) ?_)
 intro v4 w4 ho hk hg
 obtain⟨f4,n4⟩:=fk3.app0 (N3.out.al _) ho hk (fun g h=>by have:=hg g h;simpa using this)
 have F4:=zH f4
 have N4:=zH n4
 clear ho hk hg fk3 fl3 f4 n4
 have f9:zf w1 w4 v4 (zJ false R i):=by
  have h:=F4.out
  simpa [zJ]using h
 obtain⟨a9,d9,rfl,_,_⟩:=f9.1.bs
 have F9:=zH (f9.less NW.out.size)
 have N9:=zH (NW.out.tr N4.out)
 clear f9
 go_wp2
 go_ret
 exact⟨⟨_,_,rfl,F9.out⟩,N9.out⟩
theorem zag (i:Nat) (K:Int) (R B E S:Bool) (D V A:Int) (dv:Value) (w:World) (hi:i < 536870912) :
    Calls Tryz.prog 62 #[.agg #[.int .i64 K,.int .u32 i,.bool true,.bool R,.bool B,.bool E,.bool S,.int .u8 D,.int .u8 V,.int .u32 A,dv]] w fun e w'=>(∃a c,e = .returned (.slice a (zJ true R i).length c)/\zf w w' (.slice a (zJ true R i).length c) (zJ true R i))/\Nb w w':=by
 obtain⟨w1,hw1⟩:∃w1,w1=w.alloc (.cells #[.int .i64 K,.int .u32 i,.bool true,.bool R,.bool B,.bool E,.bool S,.int .u8 D,.int .u8 V,.int .u32 A,dv] 37):=⟨_,rfl⟩
 have BX:=zH (show Blk w1 w.heap.size #[.int .i64 K,.int .u32 i,.bool true,.bool R,.bool B,.bool E,.bool S,.int .u8 D,.int .u8 V,.int .u32 A,dv] 37 by rw[hw1];exact Blk.new _ _ _)
 have NW:=zH (show Nb w w1 by rw[hw1];exact Nb.rfl.al _)
 have hs1:w1.heap.size=w.heap.size+1:=by rw[hw1,World.size_alloc]
 have fl1:=zf.lit w1 [0] #[.int .u8 0] (by simp) 1 (by simp) (by simp) (by simp)
 rw[hs1]at fl1
 have F1:=zH fl1
 clear fl1 hs1
 have N1:=zH (Nb.rfl.al (.cells #[.int .u8 0] 5):Nb w1 _)
 have E1:=zH (show((i / 262144:Nat):Int)=(i:Int) / 262144 from by omega)
 have E2:=zH (show((i%262144:Nat):Int)=(i:Int)%262144 from by omega)
 have HI:=zH hi
 go_enter Tryz.func62,Tryz.ntmps62
 go_wp2_with fail
 rw[<- hw1]
 clear hw1 hi
 have hc2:=fun wz=>z06 (i / 262144) 11 wz (by have:=HI.out;omega) (by omega)
 simp only[E1.out]at hc2
 refine(hc2 _).mono ?_
 clear hc2
 rintro e w2 ⟨⟨a2,d2,rfl,b2⟩,n2⟩
 have hf2:=F1.out.keep n2
 have hn2:=N1.out.tr n2
 obtain⟨c0,c1,c2,c3,c4,c5,c6,c7,c8,c9,c10⟩:=(BX.out.nb hn2).c11
 clear n2
 go_wp2_with (at_builtin;refine zd _ rfl (.tmp 20) (.tmp 25) rfl (.slice (some ⟨w.heap.size+1,0,none⟩) 1 1) [0] rfl hf2.1 a2 d2 (zc (i / 262144) 11) 11 (zb _ _).symm rfl b2 (b2.noneN (zb _ _) (by omega)) (by simp[zb]) ?_)
 intro v3 w3 ho hk hg
 obtain⟨f3,n3⟩:=hf2.app0 hn2 ho hk hg
 have F3:=zH f3
 have N3:=zH n3
 clear ho hk hg hf2 hn2 b2 f3 n3 c0 c1 c2 c3 c4 c5 c6 c7 c8 c9 c10
 have fl3:=zf.lit w3 [1,1] #[.int .u8 1,.int .u8 1] (by simp) 2 (by simp) (by simp) (by intro x hx;simp at hx;have:=zQ R;omega)
 have fk3:=F3.out.keep (Nb.rfl.al (.cells #[.int .u8 1,.int .u8 1] 5))
 go_wp2_with (at_builtin;refine zd _ rfl (.tmp 27) (.tmp 28) rfl v3 _ rfl fk3.1 _ _ [1,1] 2 rfl rfl fl3.1.asBs.1 (by simp) (by simp[zb]) ?_)
 intro v4 w4 ho hk hg
 obtain⟨f4,n4⟩:=fk3.app0 (N3.out.al _) ho hk (fun g h=>by have:=hg g h;simpa using this)
 have F4:=zH f4
 have N4:=zH n4
 clear ho hk hg fk3 fl3 f4 n4
 obtain⟨c0,c1,c2,c3,c4,c5,c6,c7,c8,c9,c10⟩:=(BX.out.nb N4.out).c11
 go_wp2_with fail
 clear c0 c1 c2 c3 c4 c5 c6 c7 c8 c9 c10
 have hc5:=fun wz=>z06 (i%262144) 18 wz (by have:=HI.out;omega) (by omega)
 simp only[E2.out]at hc5
 refine(hc5 _).mono ?_
 clear hc5
 rintro e w5 ⟨⟨a5,d5,rfl,b5⟩,n5⟩
 have hf5:=F4.out.keep n5
 have hn5:=N4.out.tr n5
 obtain⟨c0,c1,c2,c3,c4,c5,c6,c7,c8,c9,c10⟩:=(BX.out.nb hn5).c11
 clear n5
 go_wp2_with (at_builtin;refine zd _ rfl (.tmp 30) (.tmp 35) rfl v4 _ rfl hf5.1 a5 d5 (zc (i%262144) 18) 18 (zb _ _).symm rfl b5 (b5.noneN (zb _ _) (by omega)) (by simp[zb]) ?_)
 intro v6 w6 ho hk hg
 obtain⟨f6,n6⟩:=hf5.app0 hn5 ho hk hg
 have F6:=zH f6
 have N6:=zH n6
 clear ho hk hg hf5 hn5 b5 f6 n6 c0 c1 c2 c3 c4 c5 c6 c7 c8 c9 c10
 obtain⟨c0,c1,c2,c3,c4,c5,c6,c7,c8,c9,c10⟩:=(BX.out.nb N6.out).c11
 go_wp2_with fail
 refine(z2o R _).mono ?_
 rintro e wz ⟨rfl,rfl⟩
 clear c0 c1 c2 c3 c4 c5 c6 c7 c8 c9 c10
 have fl6:=zf.lit w6 [zP R,0,0] #[.int .u8 (zP R),.int .u8 0,.int .u8 0] (by simp) 3 (by simp) (by simp) (by intro x hx;simp at hx;have:=zQ R;omega)
 have fk6:=F6.out.keep (Nb.rfl.al (.cells #[.int .u8 (zP R),.int .u8 0,.int .u8 0] 5))
 go_wp2_with (at_builtin;refine zd _ rfl (.tmp 37) (.tmp 41) rfl v6 _ rfl fk6.1 _ _ [zP R,0,0] 3 rfl rfl fl6.1.asBs.1 (by simp) (by simp[zb]) ?_)
 intro v7 w7 ho hk hg
 obtain⟨f7,n7⟩:=fk6.app0 (N6.out.al _) ho hk (fun g h=>by have:=hg g h;simpa using this)
 have F7:=zH f7
 have N7:=zH n7
 clear ho hk hg fk6 fl6 f7 n7
 have f9:zf w1 w7 v7 (zJ true R i):=by
  have h:=F7.out
  simpa [zJ]using h
 obtain⟨a9,d9,rfl,_,_⟩:=f9.1.bs
 have F9:=zH (f9.less NW.out.size)
 have N9:=zH (NW.out.tr N7.out)
 clear f9
 go_wp2
 go_ret
 exact⟨⟨_,_,rfl,F9.out⟩,N9.out⟩
theorem z4x (X R:Bool) (i:Nat) (K:Int) (B E S:Bool) (D V A:Int) (dv:Value) (w:World) (hi:i < 536870912) :
    Calls Tryz.prog 62 #[.agg #[.int .i64 K,.int .u32 i,.bool X,.bool R,.bool B,.bool E,.bool S,.int .u8 D,.int .u8 V,.int .u32 A,dv]] w fun e w'=>(∃a c,e = .returned (.slice a (zJ X R i).length c)/\zf w w' (.slice a (zJ X R i).length c) (zJ X R i))/\Nb w w':=by
 cases X with
 | false=>exact z9X i K R B E S D V A dv w hi
 | true=>exact zag i K R B E S D V A dv w hi
end Go.Proofs.YtplbmlpdefpplaaGreatDoor
