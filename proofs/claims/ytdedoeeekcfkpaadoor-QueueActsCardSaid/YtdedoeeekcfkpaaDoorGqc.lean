/- A queue that is new since a world, blocks set apart from it; calls of it. Condition: the tables hold what the program's text lays there. Layer 14's law: its frames, its example. Condition: the tables hold what the program's text lays there. Layer 14's law: items as the document's, a queue that is filled. Condition: the tables hold what the program's text lays there. Bytes that are stored into one by one (layer 14's QueueOwn). No conditions. -/
import Derived.Test.YtdedoeeekcfkpaaDoorGqb
import Derived.Test.YtdedoeeekcfkpaaDoorGqa
set_option maxHeartbeats 3200000
set_option maxRecDepth 100000
namespace Go.Proofs.YtdedoeeekcfkpaaDoor
set_option linter.unusedVariables false
set_option linter.unusedSimpArgs false
open Go.RowKit
def QuX (w w':World) (v:Value) (q:Qu) (X:Nat->Prop):Prop:=∃ F,QuAt w' v q F/\(∀ k,F k->w.heap.size<=k/\¬X k)/\(∀ k,X k->k < w'.heap.size)/\Nb w w'
abbrev noX:Nat->Prop:=fun _=>False
theorem QuX.new {w w0 w':World} {R:Nat} {q:Qu} {F:Nat->Prop} (h1:QuAt w' (.pointer (some ⟨R,0,none⟩)) q F) (h2:∀ k,F k->w0.heap.size<=k) (h3:Nb w0 w') (n:Nb w w0):QuX w w' (.pointer (some ⟨R,0,none⟩)) q noX :=
 ⟨F,h1,fun k hk=>⟨Nat.le_trans n.size (h2 k hk),fun q=>q⟩,fun _ q=>q.elim,n.tr h3⟩
theorem QuX.nb {w w':World} {v:Value} {q:Qu} {X:Nat->Prop} (h:QuX w w' v q X):Nb w w':=by
 obtain⟨_,_,_,_,h3⟩:=h
 exact h3
theorem QuX.ok {w w':World} {v:Value} {q:Qu} {X:Nat->Prop} (h:QuX w w' v q X):q.Ok/\q.room<=64/\∀ x∈q.its,WdX x.f:=by
 obtain⟨_,h1,_⟩:=h
 exact qu_ok h1
theorem QuX.keep {w w1 w2:World} {v:Value} {q:Qu} {X:Nat->Prop} (h:QuX w w1 v q X) (hb:Nb w1 w2):QuX w w2 v q X:=by
 obtain⟨F,h1,h2,h3,h4⟩:=h
 exact⟨F,qu_keep h1 (Kp.ofNb (F:=fun _=>False) hb) (by simp),h2,fun k hk=>Nat.lt_of_lt_of_le (h3 k hk) hb.size,h4.tr hb⟩
theorem QuX.keepX {w w1 w2:World} {v:Value} {q:Qu} {X Y:Nat->Prop} (h:QuX w w1 v q X) (hk:Kp Y w1 w2) (hX:∀ k,Y k->X k/\w.heap.size<=k):QuX w w2 v q X:=by
 obtain⟨F,h1,h2,h3,h4⟩:=h
 exact⟨F,qu_keep h1 hk (fun k q r=>(h2 k q).2 (hX k r).1),h2,fun k q=>Nat.lt_of_lt_of_le (h3 k q) hk.size,h4.trans (hk.toBelow h4.size fun k q=>(hX k q).2)⟩
theorem QuX.add {w w1 w2:World} {v:Value} {q:Qu} {X Y:Nat->Prop} (h:QuX w w1 v q X) (hb:Nb w1 w2) (hY:∀ k,Y k->w1.heap.size<=k/\k < w2.heap.size):QuX w w2 v q (fun k=>X k\/Y k):=by
 obtain⟨F,h1,h2,h3,h4⟩:=h
 refine⟨F,qu_keep h1 (Kp.ofNb (F:=fun _=>False) hb) (by simp),fun k hk=>⟨(h2 k hk).1,fun q => ?_⟩,fun k hk => ?_,h4.tr hb⟩
 ·rcases q with q | q
  ·exact (h2 k hk).2 q
  ·have:=qu_lt h1 k hk
   have:=(hY k q).1
   omega
 ·rcases hk with q | q
  ·exact Nat.lt_of_lt_of_le (h3 k q) hb.size
  ·exact (hY k q).2
theorem QuX.addB {w w1:World} {v:Value} {q:Qu} {X:Nat->Prop} (h:QuX w w1 v q X) (cs:Array Value) (t:TypeId):QuX w (w1.alloc (.cells cs t)) v q (fun k=>X k\/k=w1.heap.size) :=
 h.add (Nb.rfl.al _) (fun k hk=>by
  subst hk
  exact⟨Nat.le_refl _,by rw[World.size_alloc];omega⟩)
theorem QuX.less {w w':World} {v:Value} {q:Qu} {X Y:Nat->Prop} (h:QuX w w' v q X) (hY:∀ k,Y k->X k):QuX w w' v q Y:=by
 obtain⟨F,h1,h2,h3,h4⟩:=h
 exact⟨F,h1,fun k hk=>⟨(h2 k hk).1,fun q=>(h2 k hk).2 (hY k q)⟩,fun k hk=>h3 k (hY k hk),h4⟩
theorem QuX.turn {w w' w2:World} {v u:Value} {q':Qu} {X F:Nat->Prop} {e:Ending} (h2:∀ k,F k->w.heap.size<=k/\¬X k) (h3:∀ k,X k->k < w'.heap.size) (h4:Nb w w') (h:TurnQ QuAt w' v q' u F e w2):∃ G,e = .returned u/\Kp G w' w2/\(∀ k,X k->¬G k)/\QuX w w2 v q' X:=by
 obtain⟨F',rfl,g1,g2,g3⟩:=h
 refine⟨F,rfl,g2,fun k hk hf=>(h2 k hf).2 hk,F',g1,fun k hk=>⟨?_,fun q => ?_⟩,fun k q=>Nat.lt_of_lt_of_le (h3 k q) g2.size,h4.trans (g2.toBelow h4.size (fun k hk=>(h2 k hk).1))⟩
 ·rcases g3 k hk with q | q
  ·exact (h2 k q).1
  ·exact Nat.le_trans h4.size q
 ·rcases g3 k hk with r | r
  ·exact (h2 k r).2 q
  ·have:=h3 k q
   omega
theorem QuX.put {w w':World} {v:Value} {q:Qu} {X:Nat->Prop} (f:Hd) (a:Option Addr) (cap:Nat) (l:List Nat) (h:QuX w w' v q X) (hB:Longer w') (hbs:Bs w' a cap l) (hn:a=none->cap=0) (hW:WdX f) (hl:q.last<=1000000) :
    Calls Tryd.prog 19 #[v,.agg (f.cs (.slice a l.length cap))] w' fun e w2=>∃ G,e = .returned (.tuple #[.int .i64 (q.putN f l:Nat),.int .i64 (q.putE f l:Nat)])/\Kp G w' w2/\(∀ k,X k->¬G k)/\QuX w w2 v (q.put f l) X:=by
 obtain⟨F,h1,h2,h3,h4⟩:=h
 refine (putQ_any v q F f a cap l w' h1 hB hbs hn hW hl).mono ?_
 intro e w2 hh
 exact QuX.turn h2 h3 h4 hh
theorem QuX.cancel {w w':World} {v:Value} {q:Qu} {X:Nat->Prop} (n:Int) (h:QuX w w' v q X) (hB:Longer w') :
    Calls Tryd.prog 15 #[v,.int .i64 n] w' fun e w2=>∃ G,e = .returned (.int .i64 (q.cancelE n:Nat))/\Kp G w' w2/\(∀ k,X k->¬G k)/\QuX w w2 v (q.cancel n) X:=by
 obtain⟨F,h1,h2,h3,h4⟩:=h
 refine (cancelQ_any v q F n w' h1 hB).mono ?_
 intro e w2 hh
 exact QuX.turn h2 h3 h4 hh
theorem QuX.first {w w' w2:World} {v:Value} {q q':Qu} {X F:Nat->Prop} {e:Ending} (h2:∀ k,F k->w.heap.size<=k/\¬X k) (h3:∀ k,X k->k < w'.heap.size) (h4:Nb w w') (h:HeadQ QuAt w' v q q' F e w2):∃ a c P G,e = .returned (.tuple #[itV q.head (.slice a q.head.l.length c),.int .i64 (q.headE:Nat)])/\DatP w2 a c q.head.l P/\Kp G w' w2/\(∀ k,X k->¬G k)/\(∀ k,P k->w.heap.size<=k/\¬X k)/\QuX w w2 v q' (fun k=>X k\/P k):=by
 obtain⟨F',a,c,P,rfl,d,hP,g1,g2,g3⟩:=h
 refine⟨a,c,P,F,rfl,d,g2,fun k hk hf=>(h2 k hf).2 hk,fun k hk => ?_,F',g1,fun k hk=>⟨?_,fun q => ?_⟩,fun k hk => ?_,h4.trans (g2.toBelow h4.size (fun k hk=>(h2 k hk).1))⟩
 ·rcases (hP k hk).2.2 with r | r
  ·exact h2 k r
  ·refine⟨Nat.le_trans h4.size r,fun q => ?_⟩
   have:=h3 k q
   omega
 ·rcases g3 k hk with q | q
  ·exact (h2 k q).1
  ·exact Nat.le_trans h4.size q
 ·rcases q with q | q
  ·rcases g3 k hk with r | r
   ·exact (h2 k r).2 q
   ·have:=h3 k q
    omega
  ·exact (hP k q).2.1 hk
 ·rcases hk with q | q
  ·exact Nat.lt_of_lt_of_le (h3 k q) g2.size
  ·exact (hP k q).1
theorem QuX.head {w w':World} {v:Value} {q:Qu} {X:Nat->Prop} (h:QuX w w' v q X) (hB:Longer w') :
    Calls Tryd.prog 17 #[v] w' fun e w2=>∃ a c P G,e = .returned (.tuple #[itV q.head (.slice a q.head.l.length c),.int .i64 (q.headE:Nat)])/\DatP w2 a c q.head.l P/\Kp G w' w2/\(∀ k,X k->¬G k)/\(∀ k,P k->w.heap.size<=k/\¬X k)/\QuX w w2 v q (fun k=>X k\/P k):=by
 obtain⟨F,h1,h2,h3,h4⟩:=h
 refine (headQ_any v q F w' h1 hB).mono ?_
 intro e w2 hh
 exact QuX.first h2 h3 h4 hh
theorem QuX.take {w w':World} {v:Value} {q:Qu} {X:Nat->Prop} (h:QuX w w' v q X) (hB:Longer w') :
    Calls Tryd.prog 12 #[v] w' fun e w2=>∃ a c P G,e = .returned (.tuple #[itV q.head (.slice a q.head.l.length c),.int .i64 (q.headE:Nat)])/\DatP w2 a c q.head.l P/\Kp G w' w2/\(∀ k,X k->¬G k)/\(∀ k,P k->w.heap.size<=k/\¬X k)/\QuX w w2 v q.take (fun k=>X k\/P k):=by
 obtain⟨F,h1,h2,h3,h4⟩:=h
 refine (takeQ_any v q F w' h1 hB).mono ?_
 intro e w2 hh
 exact QuX.first h2 h3 h4 hh
theorem QuX.all {w w':World} {v:Value} {q:Qu} {X:Nat->Prop} (h:QuX w w' v q X) (hB:Longer w') :
    Calls Tryd.prog 24 #[v] w' fun e w2=>∃ a c P,e = .returned (.slice a q.its.length c)/\ItsAt w2 a c q.its P/\(∀ k,P k->w'.heap.size<=k/\k < w2.heap.size)/\Nb w' w2/\QuX w w2 v q (fun k=>X k\/P k):=by
 obtain⟨F,h1,h2,h3,h4⟩:=h
 refine (allQ_any v q F w' h1 hB).mono ?_
 rintro e w2 ⟨a,c,P,rfl,g1,g2,g3⟩
 exact⟨a,c,P,rfl,g1,g2,g3,QuX.add ⟨F,h1,h2,h3,h4⟩ g3 g2⟩
theorem QuX.len {w w':World} {v:Value} {q:Qu} {X:Nat->Prop} (h:QuX w w' v q X) :
    Calls Tryd.prog 21 #[v] w' fun e w2=>e = .returned (.int .i64 (q.its.length:Nat))/\Nb w' w2:=by
 obtain⟨F,h1,_⟩:=h
 exact lenQ_any v q F w' h1
end Go.Proofs.YtdedoeeekcfkpaaDoor
namespace Go.Proofs.YtdedoeeekcfkpaaDoor
set_option linter.unusedVariables false
set_option linter.unusedSimpArgs false
open Go.RowKit
def f14 (i:Nat):Hd:=⟨1,i,false,false,false,false,false,0,0,0⟩
theorem f14_wd (i:Nat):WdX (f14 i):=by simp only[WdX,f14];omega
theorem f14_any (i:Nat) (hi:i < 4294967296) (w:World):Calls Tryd.prog 29 #[.int .u32 (i:Nat)] w fun e w'=>∃ b,e = .returned (.agg ((f14 i).cs (.slice (some ⟨b,0,none⟩) 1 1)))/\Bs w' (some ⟨b,0,none⟩) 1 [i%256]/\Nb w w':=by
 go_enter Tryd.func29,Tryd.ntmps29
 have X0:=(Blk.new w #[.int .i64 1,.int .u32 i,.bool false,.bool false,.bool false,.bool false,.bool false,.int .u8 0,.int .u8 0,.int .u32 0,.slice (some ⟨w.heap.size+1,0,none⟩) 1 1] 36).nb (Nb.rfl.al (.cells #[.int .u8 ((i:Int)%256)] 5))
 have hb:=Bs.one (w.alloc (.cells #[.int .i64 1,.int .u32 i,.bool false,.bool false,.bool false,.bool false,.bool false,.int .u8 0,.int .u8 0,.int .u32 0,.slice (some ⟨w.heap.size+1,0,none⟩) 1 1] 36)) (i%256) (Nat.mod_lt _ (by omega)) 5
 rw[World.size_alloc] at hb
 have XX:=Lib.hid X0
 have HBB:=Lib.hid hb
 clear X0 hb
 go_wp2
 obtain⟨e0,e1,e2,e3,e4,e5,e6,e7,e8,e9,e10⟩:=XX.out.c11
 exact bodyPost_ret (v := .agg #[.int .i64 1,.int .u32 i,.bool false,.bool false,.bool false,.bool false,.bool false,.int .u8 0,.int .u8 0,.int .u32 0,.slice (some ⟨w.heap.size+1,0,none⟩) 1 1]) (by simp[results,Tryd.results29,go_sem,e0,e1,e2,e3,e4,e5,e6,e7,e8,e9,e10]) rfl ⟨w.heap.size+1,rfl,HBB.out,(Nb.rfl.al _).al _⟩
def al0:Qu:=⟨3,0,[]⟩
def al1:Qu:=al0.put (f14 5) [5%256]
def al2:Qu:=al1.put (f14 3) [3%256]
def al3:Qu:=al2.put (f14 5) [5%256]
theorem al3_is:al3.head.no=2/\al3.take.head.no=1/\al3.take.take.head.no=3/\al3.take.take.its.length=1:=by decide +kernel
theorem itV_no (x:It) (v:Value) {n:Nat} (h:x.no=n):itV x v = .agg #[.int .i64 (n:Nat),.int .i64 x.f.K,.int .u32 x.f.I,.bool x.f.X,.bool x.f.R,.bool x.f.B,.bool x.f.E,.bool x.f.S,.int .u8 x.f.D,.int .u8 x.f.V,.int .u32 x.f.A,v]:=by
 subst h
 rfl
theorem alive14_any (w:World) (hB:Longer w):Calls Tryd.prog 9 #[] w fun e w'=>e = .returned (.bool true)/\Nb w w':=by
 have HB:=Lib.hid hB
 have HF5:=Lib.hid (fun w'=>f14_any 5 (by omega) w')
 have HF3:=Lib.hid (fun w'=>f14_any 3 (by omega) w')
 obtain⟨i1,i2,i3,i4⟩:=al3_is
 have I1:=Lib.hid i1
 have I2:=Lib.hid i2
 have I3:=Lib.hid i3
 have I4:=Lib.hid i4
 clear hB i1 i2 i3 i4
 simp only[Hd.cs,f14] at HF5 HF3
 go_enter Tryd.func9,Tryd.ntmps9
 go_wp2_with fail
 refine (newQ_any 3 (by omega) _ HB.out).mono ?_
 rintro e w0 ⟨R,F,rfl,h1,h2,h3⟩
 have N0:=Lib.hid (show QuX w w0 _ al0 noX from QuX.new h1 h2 h3 Nb.rfl)
 clear h1 h2 h3
 go_wp2_with fail
 refine (HF5.out _).mono ?_
 rintro e v0 ⟨b0,rfl,hb,n⟩
 have M0:=Lib.hid (N0.out.keep n)
 have hp:=M0.out.put (f14 5) _ 1 _ (HB.out.below M0.out.nb) hb (fun h=>by cases h) (f14_wd _) (by decide +kernel)
 simp only[Hd.cs,f14] at hp
 have P0:=Lib.hid hp
 clear hb n N0 hp
 go_wp2_with fail
 refine P0.out.mono ?_
 rintro e w1 ⟨_,rfl,_,_,hn⟩
 have N1:=Lib.hid (show QuX w w1 _ al1 noX from hn)
 clear hn P0 M0
 go_wp2_with fail
 refine (HF3.out _).mono ?_
 rintro e v1 ⟨b1,rfl,hb,n⟩
 have M1:=Lib.hid (N1.out.keep n)
 have hp:=M1.out.put (f14 3) _ 1 _ (HB.out.below M1.out.nb) hb (fun h=>by cases h) (f14_wd _) (by decide +kernel)
 simp only[Hd.cs,f14] at hp
 have P1:=Lib.hid hp
 clear hb n N1 hp
 go_wp2_with fail
 refine P1.out.mono ?_
 rintro e w2 ⟨_,rfl,_,_,hn⟩
 have N2:=Lib.hid (show QuX w w2 _ al2 noX from hn)
 clear hn P1 M1
 go_wp2_with fail
 refine (HF5.out _).mono ?_
 rintro e v2 ⟨b2,rfl,hb,n⟩
 have M2:=Lib.hid (N2.out.keep n)
 have hp:=M2.out.put (f14 5) _ 1 _ (HB.out.below M2.out.nb) hb (fun h=>by cases h) (f14_wd _) (by decide +kernel)
 simp only[Hd.cs,f14] at hp
 have P2:=Lib.hid hp
 clear hb n N2 hp
 go_wp2_with fail
 refine P2.out.mono ?_
 rintro e w3 ⟨_,rfl,_,_,hn⟩
 have N3:=Lib.hid (show QuX w w3 _ al3 noX from hn)
 clear hn P2 M2
 go_wp2_with fail
 refine (N3.out.take (HB.out.below N3.out.nb)).mono ?_
 rintro e w4 ⟨a0,c0,_,_,rfl,_,gk,gX,_,hn⟩
 obtain⟨⟨nq0,⟨Kq0,Iq0,Xq0,Rq0,Bq0,Eq0,Sq0,Dq0,Vq0,Aq0⟩,lq0⟩,hx⟩:∃ x,(al3).head=x:=⟨_,rfl⟩
 obtain rfl:nq0=2:=by have:=I1.out;rw[hx] at this;exact this
 rw[hx]
 simp only[itV,itA]
 obtain⟨Q0,hA⟩:∃ Q,Q=w4.heap.size:=⟨_,rfl⟩
 obtain⟨u0,hu⟩:∃ u,u=w4.alloc (.cells #[.int .i64 2,.int .i64 Kq0,.int .u32 Iq0,.bool Xq0,.bool Rq0,.bool Bq0,.bool Eq0,.bool Sq0,.int .u8 Dq0,.int .u8 Vq0,.int .u32 Aq0,.slice a0 lq0.length c0] 40):=⟨_,rfl⟩
 have N4:=Lib.hid (show QuX w u0 _ (al3.take) (fun k=>k=Q0) by rw[hu,hA];exact (hn.addB _ _).less (fun k hk=>by simp[show k=_ from hk]))
 have BQ0:=Lib.hid (show Blk u0 Q0 #[.int .i64 2,.int .i64 Kq0,.int .u32 Iq0,.bool Xq0,.bool Rq0,.bool Bq0,.bool Eq0,.bool Sq0,.int .u8 Dq0,.int .u8 Vq0,.int .u32 Aq0,.slice a0 lq0.length c0] 40 by rw[hu,hA];exact Blk.new _ _ _)
 have HU:=Lib.hid hu
 have HA:=Lib.hid hA
 clear hu hA hn gk gX hx N3
 go_wp2_with fail
 rw[<- HU.out,<- HA.out]
 refine (N4.out.take (HB.out.below N4.out.nb)).mono ?_
 rintro e w5 ⟨a1,c1,_,_,rfl,_,gk,gX,_,hn⟩
 obtain⟨⟨nq1,⟨Kq1,Iq1,Xq1,Rq1,Bq1,Eq1,Sq1,Dq1,Vq1,Aq1⟩,lq1⟩,hx⟩:∃ x,(al3.take).head=x:=⟨_,rfl⟩
 obtain rfl:nq1=1:=by have:=I2.out;rw[hx] at this;exact this
 rw[hx]
 simp only[itV,itA]
 obtain⟨Q1,hA⟩:∃ Q,Q=w5.heap.size:=⟨_,rfl⟩
 obtain⟨u1,hu⟩:∃ u,u=w5.alloc (.cells #[.int .i64 1,.int .i64 Kq1,.int .u32 Iq1,.bool Xq1,.bool Rq1,.bool Bq1,.bool Eq1,.bool Sq1,.int .u8 Dq1,.int .u8 Vq1,.int .u32 Aq1,.slice a1 lq1.length c1] 40):=⟨_,rfl⟩
 have BQ0:=Lib.hid (BQ0.out.keep gk (gX _ (by simp)))
 have N5:=Lib.hid (show QuX w u1 _ (al3.take.take) (fun k=>k=Q0\/k=Q1) by rw[hu,hA];exact (hn.addB _ _).less (fun k hk=>by rcases hk with h | h<;>simp[h]))
 have BQ1:=Lib.hid (show Blk u1 Q1 #[.int .i64 1,.int .i64 Kq1,.int .u32 Iq1,.bool Xq1,.bool Rq1,.bool Bq1,.bool Eq1,.bool Sq1,.int .u8 Dq1,.int .u8 Vq1,.int .u32 Aq1,.slice a1 lq1.length c1] 40 by rw[hu,hA];exact Blk.new _ _ _)
 have BQ0:=Lib.hid (show Blk u1 Q0 _ _ by rw[hu];exact BQ0.out.nb (Nb.rfl.al _))
 have HU:=Lib.hid hu
 have HA:=Lib.hid hA
 clear hu hA hn gk gX hx N4
 go_wp2_with fail
 rw[<- HU.out,<- HA.out]
 refine (N5.out.head (HB.out.below N5.out.nb)).mono ?_
 rintro e w6 ⟨a2,c2,_,_,rfl,_,gk,gX,_,hn⟩
 obtain⟨⟨nq2,⟨Kq2,Iq2,Xq2,Rq2,Bq2,Eq2,Sq2,Dq2,Vq2,Aq2⟩,lq2⟩,hx⟩:∃ x,(al3.take.take).head=x:=⟨_,rfl⟩
 obtain rfl:nq2=3:=by have:=I3.out;rw[hx] at this;exact this
 rw[hx]
 simp only[itV,itA]
 obtain⟨Q2,hA⟩:∃ Q,Q=w6.heap.size:=⟨_,rfl⟩
 obtain⟨u2,hu⟩:∃ u,u=w6.alloc (.cells #[.int .i64 3,.int .i64 Kq2,.int .u32 Iq2,.bool Xq2,.bool Rq2,.bool Bq2,.bool Eq2,.bool Sq2,.int .u8 Dq2,.int .u8 Vq2,.int .u32 Aq2,.slice a2 lq2.length c2] 40):=⟨_,rfl⟩
 have BQ0:=Lib.hid (BQ0.out.keep gk (gX _ (by simp)))
 have BQ1:=Lib.hid (BQ1.out.keep gk (gX _ (by simp)))
 have N6:=Lib.hid (show QuX w u2 _ (al3.take.take) (fun k=>k=Q0\/k=Q1\/k=Q2) by rw[hu,hA];exact (hn.addB _ _).less (fun k hk=>by rcases hk with h | h | h<;>simp[h]))
 have BQ2:=Lib.hid (show Blk u2 Q2 #[.int .i64 3,.int .i64 Kq2,.int .u32 Iq2,.bool Xq2,.bool Rq2,.bool Bq2,.bool Eq2,.bool Sq2,.int .u8 Dq2,.int .u8 Vq2,.int .u32 Aq2,.slice a2 lq2.length c2] 40 by rw[hu,hA];exact Blk.new _ _ _)
 have y0:=(BQ0.out).cell 0
 have y1:=(BQ1.out).cell 0
 have z0:=BQ0.out.lt
 have z1:=BQ1.out.lt
 simp only[List.getElem?_toArray,List.getElem?_cons_zero] at y0 y1
 have BQ0:=Lib.hid (show Blk u2 Q0 _ _ by rw[hu];exact BQ0.out.nb (Nb.rfl.al _))
 have BQ1:=Lib.hid (show Blk u2 Q1 _ _ by rw[hu];exact BQ1.out.nb (Nb.rfl.al _))
 have HU:=Lib.hid hu
 have HA:=Lib.hid hA
 clear hu hA hn gk gX hx N5
 go_wp2_with fail
 rw[<- HU.out,<- HA.out]
 refine N6.out.len.mono ?_
 rintro e w7 ⟨rfl,n7⟩
 rw[I4.out]
 have N7:=Lib.hid (N6.out.keep n7)
 clear n7 N6
 go_wp2_with fail
 refine (cancelQ_nil 1 _ (HB.out.below N7.out.nb)).mono ?_
 rintro e w8 ⟨rfl,n8⟩
 have N8:=Lib.hid (N7.out.keep n8)
 go_wp2
 go_ret
 exact⟨rfl,N8.out.nb⟩
end Go.Proofs.YtdedoeeekcfkpaaDoor
namespace Go.Proofs.YtdedoeeekcfkpaaDoor
set_option linter.unusedVariables false
set_option linter.unusedSimpArgs false
open Go.RowKit
theorem items_any (a:Option Addr) (cap:Nat) (es:List It) (P:Nat->Prop) (w:World) (h:ItsAt w a cap es P) (hl:es.length<=1000) (hP:∀ k,P k->k < w.heap.size) :
    Calls Tryd.prog 23 #[.slice a es.length cap] w fun e w'=>∃ v L,e = .returned v/\OwnIR w' v L/\RowI w' L P/\L.map Prod.fst=es/\(∀ g,v.ownBlock=some g->w.heap.size<=g)/\Nb w w':=by
 have H:=Lib.hid h
 have HP:=Lib.hid hP
 clear h hP
 go_enter Tryd.func23,Tryd.ntmps23
 go_wp2
 go_loopw [3,8] (fun ov ix wr=>∃ (k:Nat) (L:List (It × Value)),k<=es.length/\ix = .int .i64 k/\OwnIR wr ov L/\RowI wr L P/\L.map Prod.fst=es.take k/\(∀ g,ov.ownBlock=some g->w.heap.size<=g)/\Nb w wr) (fun _ ix _=>es.length - (intOf ix).toNat)
 case atStart=>exact⟨0,[],Nat.zero_le _,rfl,OwnIR.nil _,RowI.nil _ _,rfl,by simp[Value.ownBlock],Nb.rfl⟩
 case round =>
  obtain⟨k,L,hk,rfl,ho,hr,hm,hf,hn⟩:=hrel
  have OW:=Lib.hid ho
  have RW:=Lib.hid hr
  have HM:=Lib.hid hm
  have HF:=Lib.hid hf
  have N:=Lib.hid hn
  clear ho hr hm hf hn
  by_cases hlt:k < es.length
  ·have hlt':decide ((k:Int) < (es.length:Int))=true:=decide_eq_true (by omega)
   have hLL:L.length=k:=by
    have:=congrArg List.length HM.out
    rw[List.length_map,List.length_take] at this
    omega
   obtain⟨⟨nx,⟨Kx,Ix,Xx,Rx,Bx,Ex,Sx,Dx,Vx,Ax⟩,lx⟩,hx⟩:∃ x,es.getD k dI=x:=⟨_,rfl⟩
   obtain⟨b,of,rfl,_⟩:=H.out.hcells (by omega)
   obtain⟨pa,pc,⟨v0,v1,v2,v3,v4,v5,v6,v7,v8,v9,v10,v11⟩,hd⟩:=(H.out.nb N.out).at hlt hx
   have HD:=Lib.hid hd
   have TK:=Lib.hid (show es.take (k+1)=es.take k++[⟨nx,⟨Kx,Ix,Xx,Rx,Bx,Ex,Sx,Dx,Vx,Ax⟩,lx⟩] by rw[<- hx,List.take_add_one];simp[List.getD,hlt])
   have B12:=Lib.hid (Blk.new (wr.alloc (.cells #[.int .i64 nx,.int .i64 Kx,.int .u32 Ix,.bool Xx,.bool Rx,.bool Bx,.bool Ex,.bool Sx,.int .u8 Dx,.int .u8 Vx,.int .u32 Ax,.slice pa lx.length pc] 40)) #[.int .i64 nx,.int .i64 Kx,.int .u32 Ix,.bool Xx,.bool Rx,.bool Bx,.bool Ex,.bool Sx,.int .u8 Dx,.int .u8 Vx,.int .u32 Ax,.slice pa lx.length pc] 43)
   clear hx hd
   go_wp2_with (at_builtin;refine wpList_appIR_1 _ rfl (.tmp 12) (.tmp 14) rfl _ L rfl (OW.out.nb ((Nb.rfl.al _).al _)) _ ⟨nx,⟨Kx,Ix,Xx,Rx,Bx,Ex,Sx,Dx,Vx,Ax⟩,lx⟩ pa lx.length pc rfl ?_ (by rw[hLL];omega) ?_)
   ·have q:=B12.out
    rw[World.size_alloc] at q
    exact fun i u hu=>(q.cell i).trans (by rw[List.getElem?_toArray];exact hu)
   intro vo w2 ho2 hk2 hf2
   have NA:Nb wr ((wr.alloc (.cells #[.int .i64 nx,.int .i64 Kx,.int .u32 Ix,.bool Xx,.bool Rx,.bool Bx,.bool Ex,.bool Sx,.int .u8 Dx,.int .u8 Vx,.int .u32 Ax,.slice pa lx.length pc] 40)).alloc (.cells #[.int .i64 nx,.int .i64 Kx,.int .u32 Ix,.bool Xx,.bool Rx,.bool Bx,.bool Ex,.bool Sx,.int .u8 Dx,.int .u8 Vx,.int .u32 Ax,.slice pa lx.length pc] 43)):=(Nb.rfl.al _).al _
   have hPg:∀ k,P k->¬(fun k=>Value.ownBlock _=some k) k:=fun k hp hq=>by
    have h1:=HF.out k hq
    have h2:=HP.out k hp
    omega
   have R1:=Lib.hid ho2
   have R2:=Lib.hid (((RW.out.nb NA).app (RowI.one (e:=⟨nx,⟨Kx,Ix,Xx,Rx,Bx,Ex,Sx,Dx,Vx,Ax⟩,lx⟩) (HD.out.nb NA))).keep hk2 hPg)
   have R3:=Lib.hid (show ∀ g,vo.ownBlock=some g->w.heap.size<=g from fun g hg=>by
    rcases hf2 g hg with h | h
    ·exact HF.out g h
    ·have hs:=(N.out.tr NA).size
     simp only[World.size_alloc] at hs h
     exact Nat.le_trans hs h)
   have R4:=Lib.hid (show Nb w w2 from (N.out.tr NA).trans (hk2.toBelow (N.out.tr NA).size HF.out))
   clear ho2 hk2 hf2 NA hPg B12 v0 v1 v2 v3 v4 v5 v6 v7 v8 v9 v10 v11
   go_wp2
   go_roundw
   case rel=>exact⟨k+1,_,by omega,by go_num,R1.out,R2.out,by rw[List.map_append,HM.out,TK.out];rfl,R3.out,R4.out⟩
   case measure=>simp[intOf];omega
  ·have hlt':decide ((k:Int) < (es.length:Int))=false:=decide_eq_false (by omega)
   obtain rfl:k=es.length:=by omega
   go_wp2
   go_ret
   exact⟨_,L,rfl,OW.out,RW.out,by rw[HM.out,List.take_of_length_le (Nat.le_refl _)],HF.out,N.out⟩
def q64:Qu:=⟨64,0,[]⟩
theorem putN_last (q:Qu) (f:Hd) (l:List Nat):(q.put f l).last=q.last+if q.putE f l=0 then 1 else 0:=by
 unfold Qu.put
 split<;>rfl
theorem putE_or (q:Qu) (f:Hd) (l:List Nat):q.putE f l=0\/q.putE f l=2\/q.putE f l=8:=by
 unfold Qu.putE
 split
 ·exact .inr (.inl rfl)
 ·split
  ·exact .inr (.inr rfl)
  ·exact .inl rfl
theorem puts_last (q:Qu) (fs:List (Hd × List Nat)):(q.puts fs).last<=q.last+fs.length:=by
 induction fs generalizing q with
 | nil=>exact Nat.le_refl _
 | cons p fs ih =>
   have:=ih (q.put p.1 p.2)
   have e:=putN_last q p.1 p.2
   show ((q.put p.1 p.2).puts fs).last<=_
   rw[List.length_cons]
   split at e<;>omega
theorem FrsAt.atW {w:World} {b o cap:Nat} {fs:List (Hd × List Nat)} (h:FrsAt w (some ⟨b,o,none⟩) cap fs) {j:Nat} (hj:j < fs.length) {K I:Int} {X R B E S:Bool} {D V A:Int} {l:List Nat} (hf:fs.getD j dF=(⟨K,I,X,R,B,E,S,D,V,A⟩,l)) :
    ∃ a' c',(∀ w',Nb w w'->(w'.cell? ⟨b,o+j*11,none⟩=some (.int .i64 K)/\w'.cell? ⟨b,o+j*11+1,none⟩=some (.int .u32 I)/\w'.cell? ⟨b,o+j*11+2,none⟩=some (.bool X)/\w'.cell? ⟨b,o+j*11+3,none⟩=some (.bool R)/\w'.cell? ⟨b,o+j*11+4,none⟩=some (.bool B)/\w'.cell? ⟨b,o+j*11+5,none⟩=some (.bool E)/\w'.cell? ⟨b,o+j*11+6,none⟩=some (.bool S)/\w'.cell? ⟨b,o+j*11+7,none⟩=some (.int .u8 D)/\w'.cell? ⟨b,o+j*11+8,none⟩=some (.int .u8 V)/\w'.cell? ⟨b,o+j*11+9,none⟩=some (.int .u32 A)/\w'.cell? ⟨b,o+j*11+10,none⟩=some (.slice a' l.length c'))) /\
     WdX ⟨K,I,X,R,B,E,S,D,V,A⟩/\Bs w a' c' l/\(a'=none->c'=0):=by
 obtain⟨a',c',⟨x0,x1,x2,x3,x4,x5,x6,x7,x8,x9,x10⟩,h2,_,h4,h5⟩:=h.at hj hf
 refine⟨a',c',fun w' hb => ?_,h2,h4,h5⟩
 have tr:∀ {i:Nat} {u:Value},w.cell? ⟨b,i,none⟩=some u->w'.cell? ⟨b,i,none⟩=some u:=fun {i u} q=>by
  rw[hb.cell (p:=⟨b,i,none⟩) (World.block_lt_of_cell? _ _ q)]
  exact q
 exact⟨tr x0,tr x1,tr x2,tr x3,tr x4,tr x5,tr x6,tr x7,tr x8,tr x9,tr x10⟩
theorem fill14_any (a:Option Addr) (cap:Nat) (fs:List (Hd × List Nat)) (w:World) (h:FrsAt w a cap fs) (hl:fs.length<=1000) (hB:Longer w) :
    Calls Tryd.prog 25 #[.slice a fs.length cap] w fun e w'=>∃ v,e = .returned (.tuple #[v,.int .i64 ((q64.puts fs).last:Nat)])/\QuX w w' v (q64.puts fs) noX:=by
 have H:=Lib.hid h
 have HB:=Lib.hid (fun w' (m:Nb w w')=>(hB.below m:Longer w'))
 have HNW:=Lib.hid (newQ_any 64 (by omega) w hB)
 clear h hB
 go_enter Tryd.func25,Tryd.ntmps25
 go_wp2_with fail
 refine HNW.out.mono ?_
 rintro e w1 ⟨R,F,rfl,h1,h2,h3⟩
 have N1:=Lib.hid (show QuX w w1 _ q64 noX from QuX.new h1 h2 h3 Nb.rfl)
 generalize Value.pointer (some ⟨R,0,none⟩)=vq at *
 clear h1 h2 h3 HNW
 go_wp2
 go_loopw [6,17] (fun nv ix wr=>∃ k:Nat,k<=fs.length/\ix = .int .i64 k/\nv = .int .i64 ((q64.puts (fs.take k)).last:Nat)/\QuX w wr vq (q64.puts (fs.take k)) noX) (fun _ ix _=>fs.length - (intOf ix).toNat)
 case atStart=>exact⟨0,Nat.zero_le _,rfl,rfl,N1.out⟩
 case round =>
  obtain⟨k,hk,rfl,rfl,hN⟩:=hrel
  have N:=Lib.hid hN
  clear hN N1
  have hpl:=puts_last q64 (fs.take k)
  rw[List.length_take] at hpl
  by_cases hlt:k < fs.length
  ·have hlt':decide ((k:Int) < (fs.length:Int))=true:=decide_eq_true (by omega)
   have hsn:=fs_take fs hlt
   obtain⟨⟨⟨Kx,Ix,Xx,Rx,Bx,Ex,Sx,Dx,Vx,Ax⟩,lx⟩,hx⟩:∃ x,fs.getD k dF=x:=⟨_,rfl⟩
   obtain⟨bf,of,rfl,-⟩:=H.out.hcells (by omega)
   obtain⟨pa,pc,hcl,hWd,hb,hpn⟩:=H.out.atW hlt hx
   obtain⟨v0,v1,v2,v3,v4,v5,v6,v7,v8,v9,v10⟩:=hcl wr N.out.nb
   rw[hx] at hsn
   have hq:=Qu.puts_snoc q64 (fs.take k) (⟨Kx,Ix,Xx,Rx,Bx,Ex,Sx,Dx,Vx,Ax⟩,lx)
   rw[<- hsn] at hq
   have hla:=putN_last (q64.puts (fs.take k)) ⟨Kx,Ix,Xx,Rx,Bx,Ex,Sx,Dx,Vx,Ax⟩ lx
   have hor:=putE_or (q64.puts (fs.take k)) ⟨Kx,Ix,Xx,Rx,Bx,Ex,Sx,Dx,Vx,Ax⟩ lx
   simp only at hq
   rw[<- hq] at hla
   have hp:=(N.out.keep (Nb.rfl.al (.cells #[.int .i64 Kx,.int .u32 Ix,.bool Xx,.bool Rx,.bool Bx,.bool Ex,.bool Sx,.int .u8 Dx,.int .u8 Vx,.int .u32 Ax,.slice pa lx.length pc] 36))).put ⟨Kx,Ix,Xx,Rx,Bx,Ex,Sx,Dx,Vx,Ax⟩ pa pc lx (HB.out _ (N.out.keep (Nb.rfl.al _)).nb) (hb.below ((N.out.keep (Nb.rfl.al _)).nb)) hpn hWd (by
    have h0:q64.last=0:=rfl
    have:min k fs.length<=1000:=by omega
    omega)
   rw[<- hq] at hp
   have hl0:(q64).last=0:=rfl
   generalize q64.puts (fs.take k)=q at *
   obtain⟨q',hq'⟩:∃ q',q64.puts (fs.take (k+1))=q':=⟨_,rfl⟩
   rw[hq'] at hq hla hp
   have HQ:=Lib.hid hq'
   clear hq'
   simp only[Hd.cs] at hp
   have HP:=Lib.hid hp
   have HLA:=Lib.hid hla
   have HL0:=Lib.hid hl0
   clear hcl hWd hb hpn hx hsn hq hp hla hl0
   generalize q.putE ⟨Kx,Ix,Xx,Rx,Bx,Ex,Sx,Dx,Vx,Ax⟩ lx=er at *
   generalize q.putN ⟨Kx,Ix,Xx,Rx,Bx,Ex,Sx,Dx,Vx,Ax⟩ lx=no at *
   go_wp2_with fail
   refine HP.out.mono ?_
   rintro e w2 ⟨_,rfl,_,_,hn⟩
   have N2:=Lib.hid hn
   clear hn HP v0 v1 v2 v3 v4 v5 v6 v7 v8 v9 v10
   have hle:q.last<=1000:=by
    have h0:=HL0.out
    have:min k fs.length<=1000:=by omega
    omega
   by_cases he:er=0
   ·subst he
    have:=HLA.out
    rw[if_pos rfl] at this
    clear hor
    go_wp2
    go_roundw
    case rel=>exact⟨k+1,by omega,by go_num,by have h0:=HL0.out;rw[HQ.out,this];go_num,by rw[HQ.out];exact N2.out⟩
    case measure=>simp[intOf];omega
   ·have:=HLA.out
    rw[if_neg he] at this
    have de:(((er:Nat):Int)==0)=false:=by rw[beq_eq_false_iff_ne];omega
    clear hor
    go_wp2
    go_roundw
    case rel=>exact⟨k+1,by omega,by go_num,by have h0:=HL0.out;rw[HQ.out,this];go_num,by rw[HQ.out];exact N2.out⟩
    case measure=>simp[intOf];omega
  ·have hlt':decide ((k:Int) < (fs.length:Int))=false:=decide_eq_false (by omega)
   obtain rfl:k=fs.length:=by omega
   have ht:=List.take_of_length_le (Nat.le_refl fs.length)
   rw[ht] at N ⊢
   have NN:=Lib.hid N.out
   clear ht N
   go_wp2
   go_ret2
   exact⟨vq,rfl,NN.out⟩
end Go.Proofs.YtdedoeeekcfkpaaDoor
namespace Go.Proofs.YtdedoeeekcfkpaaDoor
set_option linter.unusedVariables false
set_option linter.unusedSimpArgs false
open Go.RowKit
def MutS (w:World) (a:Option Addr) (c n:Nat) (X:Nat->Prop):Prop:=∃ m:List Nat,m.length=n/\DatP w a c m X
theorem DatP.mut {w:World} {a:Option Addr} {c:Nat} {l:List Nat} {X:Nat->Prop} (h:DatP w a c l X):MutS w a c l.length X:=⟨l,rfl,h⟩
theorem MutS.keep {F X:Nat->Prop} {w w':World} {a:Option Addr} {c n:Nat} (h:MutS w a c n X) (hk:Kp F w w') (hn:∀ k,X k->¬F k):MutS w' a c n X:=by
 obtain⟨m,h1,h2⟩:=h
 exact⟨m,h1,h2.keep hk hn⟩
theorem MutS.nb {X:Nat->Prop} {w w':World} {a:Option Addr} {c n:Nat} (h:MutS w a c n X) (hb:Nb w w'):MutS w' a c n X:=h.keep (F:=fun _=>False) (Kp.ofNb hb) (by simp)
theorem MutS.at {w:World} {a:Option Addr} {c n:Nat} {X:Nat->Prop} (h:MutS w a c n X) {k:Nat} (hk:k < n):∃ b o x,a=some ⟨b,o,none⟩/\X b/\n<=c/\c<=maxLen/\x < 256/\w.cell? ⟨b,o+k,none⟩=some (.int .u8 (x:Nat))/\w.frozen? ⟨b,o+k,none⟩=false/\b < w.heap.size/\∀ v,v < 256->MutS (w.setCell ⟨b,o+k,none⟩ (.int .u8 (v:Nat))) a c n X:=by
 obtain⟨m,rfl,hb,hf⟩:=h
 obtain⟨b,o,rfl,hc⟩:=hb.hcells (by omega)
 obtain⟨hX,hfz⟩:=hf b o none rfl (by omega)
 have hck:=hc k hk
 refine⟨b,o,m.getD k 0,rfl,hX,hb.hcap,hb.hmax,?_,hck,hfz k,World.block_lt_of_cell? _ _ hck,fun v hv=>⟨m.set k v,by simp,⟨by simpa using hb.hcap,hb.hmax,fun x hx => ?_,fun _=>⟨b,o,rfl,fun j hj => ?_⟩⟩,fun b' o' t e _ => ?_⟩⟩
 ·have:=hb.hbyte (m.getD k 0) (by simp[List.getD,hk])
  exact this
 ·rcases List.mem_or_eq_of_mem_set hx with h | rfl
  ·exact hb.hbyte x h
  ·exact hv
 ·rw[List.length_set] at hj
  by_cases hjk:k=j
  ·subst hjk
   rw[World.cell?_setCell_same' _ _ _ (by rw[hck];rfl)]
   simp[List.getD,hk]
  ·rw[World.cell?_setCell_other _ _ _ _ (fun e=>by (simp at e)<;>omega),hc j hj]
   simp[List.getD,List.getElem?_set_ne hjk]
 ·simp only[Option.some.injEq,Addr.mk.injEq] at e
  obtain⟨rfl,rfl,_⟩:=e
  exact⟨hX,fun i=>by rw[World.frozen?_setCell];exact hfz i⟩
theorem OwnB.dat {w:World} {a:Option Addr} {c:Nat} {l:List Nat} {X:Nat->Prop} (h:OwnB w (.slice a l.length c) l) (hX:∀ g,Value.ownBlock (.slice a l.length c)=some g->X g):DatP w a c l X:=by
 refine⟨h.asBs.1,fun b o t e hl => ?_⟩
 subst e
 obtain⟨b',c',hsh⟩:=h.shape (by omega)
 simp only[Value.slice.injEq,Option.some.injEq,Addr.mk.injEq,true_and] at hsh
 obtain⟨⟨rfl,rfl,rfl⟩,rfl⟩:=hsh
 exact⟨hX b rfl,fun i=>by rw[Nat.zero_add];exact h.frozen rfl i⟩
end Go.Proofs.YtdedoeeekcfkpaaDoor
