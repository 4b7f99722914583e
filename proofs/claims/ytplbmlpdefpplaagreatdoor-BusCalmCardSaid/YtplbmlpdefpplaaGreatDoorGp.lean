/- The landed package node, and more. Conditions: as each says. -/
import Derived.Test.YtplbmlpdefpplaaGreatDoorGw
import Derived.Test.YtplbmlpdefpplaaGreatDoorGo
set_option maxHeartbeats 1600000
set_option maxRecDepth 100000
namespace Go.Proofs.YtplbmlpdefpplaaGreatDoor
set_option linter.unusedVariables false
set_option linter.unusedSimpArgs false
open Go.RowKit
variable {F G:Nat->Prop} {n:Nd} {ld v:Value} {w w':World}
def ziQ(w:World)(f:Hd)(l:List Nat)(e:Ending)(w':World):Prop:=∃a c,e = .returned (.agg #[.slice a (wF f l).length c,.int .i64 (z2J f l:Nat),.int .i64 (z2P f l:Nat)])/\zf w w' (.slice a (wF f l).length c) (wF f l)
theorem zg7 (I:Int) (X R B E S:Bool) (D V A:Int) (a:Option Addr) (cap:Nat) (l:List Nat) (er:Nat) (w:World)
    (hw:∀w',Nb w w'->Calls Tryz.prog 110 #[.agg (Hd.cs ⟨1,I,X,R,B,E,S,D,V,A⟩ (.slice a l.length cap))] w' fun e w''=>z4B w' (z0M ⟨1,I,X,R,B,E,S,D,V,A⟩ l) (z1S ⟨1,I,X,R,B,E,S,D,V,A⟩ l) (z27 ⟨1,I,X,R,B,E,S,D,V,A⟩ l) er e w''/\Nb w' w'') :
    Calls Tryz.prog 89 #[.agg (Hd.cs ⟨1,I,X,R,B,E,S,D,V,A⟩ (.slice a l.length cap))] w fun e w'=>ziQ w ⟨1,I,X,R,B,E,S,D,V,A⟩ l e w'/\Nb w w':=by
 have e1:wF ⟨1,I,X,R,B,E,S,D,V,A⟩ l=z0M ⟨1,I,X,R,B,E,S,D,V,A⟩ l:=rfl
 have e2:z2J ⟨1,I,X,R,B,E,S,D,V,A⟩ l=z1S ⟨1,I,X,R,B,E,S,D,V,A⟩ l:=rfl
 have e3:z2P ⟨1,I,X,R,B,E,S,D,V,A⟩ l=z27 ⟨1,I,X,R,B,E,S,D,V,A⟩ l:=rfl
 unfold ziQ
 rw[e1,e2,e3]
 clear e1 e2 e3
 generalize z0M ⟨1,I,X,R,B,E,S,D,V,A⟩ l=W at *
 generalize z1S ⟨1,I,X,R,B,E,S,D,V,A⟩ l=Q at *
 generalize z27 ⟨1,I,X,R,B,E,S,D,V,A⟩ l=C at *
 simp only[Hd.cs]at hw ⊢
 have HW:=zH hw
 clear hw
 go_enter Tryz.func89,Tryz.ntmps89
 go_wp2_with fail
 refine(HW.out _ (((Nb.rfl.al _).al _).al _)).mono ?_
 rintro e w1 ⟨⟨a1,c1,rfl,f1⟩,n1⟩
 have m1:Nb w w1:=(((Nb.rfl.al _).al _).al _).tr n1
 have hy1:=((Blk.new (w.alloc (.cells #[.int .i64 1,.int .u32 I,.bool X,.bool R,.bool B,.bool E,.bool S,.int .u8 D,.int .u8 V,.int .u32 A,.slice a l.length cap] 37)) #[.slice none 0 0,.int .i64 0,.int .i64 0] 52).nb (Nb.rfl.al (.cells #[.slice none 0 0,.int .i64 0,.int .i64 0] 52))).nb n1
 have hz1:=(Blk.new ((w.alloc (.cells #[.int .i64 1,.int .u32 I,.bool X,.bool R,.bool B,.bool E,.bool S,.int .u8 D,.int .u8 V,.int .u32 A,.slice a l.length cap] 37)).alloc (.cells #[.slice none 0 0,.int .i64 0,.int .i64 0] 52)) #[.slice none 0 0,.int .i64 0,.int .i64 0] 52).nb n1
 simp only[World.size_alloc]at hy1 hz1
 have hf1:∀g,(Value.slice a1 W.length c1).ownBlock=some g->w.heap.size+1+1 < g:=fun g hg=>by
  have:=f1.2 g hg
  simp only[World.size_alloc]at this
  omega
 obtain⟨y0,y1,y2⟩:=hy1.c3
 obtain⟨z0,z1,z2⟩:=hz1.c3
 obtain⟨v0,v1,v2⟩:=hy1.f3
 obtain⟨u0,u1,u2⟩:=hz1.f3
 have hl1:=hy1.lt
 have hl2:=hz1.lt
 have hq:=hy1.keep (F:=fun b=>b=w.heap.size+1+1) (w':=p3 w1 (w.heap.size+1+1) (.slice a1 W.length c1) (.int .i64 (Q:Nat)) (.int .i64 (C:Nat))) (((Kp.set (F:=fun b=>b=w.heap.size+1+1) rfl).tr (Kp.set (F:=fun b=>b=w.heap.size+1+1) rfl) (fun _ h => .inl h)).tr (Kp.set (F:=fun b=>b=w.heap.size+1+1) rfl) (fun _ h => .inl h)) (by omega)
 obtain⟨e0,e1,e2⟩:=z1o (.slice a1 W.length c1) (.int .i64 (Q:Nat)) (.int .i64 (C:Nat)) hq
 have nf:=z3R (z3R m1 (b:=w.heap.size+1+1) (by omega) (.slice a1 W.length c1) (.int .i64 (Q:Nat)) (.int .i64 (C:Nat))) (b:=w.heap.size+1) (by omega) (.slice a1 W.length c1) (.int .i64 (Q:Nat)) (.int .i64 (C:Nat))
 have kset:∀(w':World) (b o:Nat) (v:Value),(b=w.heap.size+1\/b=w.heap.size+1+1)->Kp (fun b=>b=w.heap.size+1\/b=w.heap.size+1+1) w' (w'.setCell ⟨b,o,none⟩ v):=fun w' b o v h=>Kp.set (F:=fun b=>b=w.heap.size+1\/b=w.heap.size+1+1) (p:=⟨b,o,none⟩) h
 have ff:zf w (p3 (p3 w1 (w.heap.size+1+1) (.slice a1 W.length c1) (.int .i64 (Q:Nat)) (.int .i64 (C:Nat))) (w.heap.size+1) (.slice a1 W.length c1) (.int .i64 (Q:Nat)) (.int .i64 (C:Nat))) (.slice a1 W.length c1) W:=by
  refine⟨f1.1.keep (F:=fun b=>b=w.heap.size+1\/b=w.heap.size+1+1) ?_ (fun g hg=>by have:=hf1 g hg;omega),fun g hg=>by have:=hf1 g hg;omega⟩
  exact(((((kset _ _ _ _ (.inr rfl)).rr (kset _ _ _ _ (.inr rfl))).rr (kset _ _ _ _ (.inr rfl))).rr (kset _ _ _ _ (.inl rfl))).rr (kset _ _ _ _ (.inl rfl))).rr (kset _ _ _ _ (.inl rfl))
 have FF:=zH ff
 have NF:=zH nf
 have E0:=zH e0
 have E1:=zH e1
 have E2:=zH e2
 clear n1 m1 f1 hy1 hz1 nf ff HW e0 e1 e2 hq hf1 kset
 go_wp2
 change bodyPost _ _ _ _ _ (p3 (p3 w1 (w.heap.size+1+1) (.slice a1 W.length c1) (.int .i64 (Q:Nat)) (.int .i64 (C:Nat))) (w.heap.size+1) (.slice a1 W.length c1) (.int .i64 (Q:Nat)) (.int .i64 (C:Nat)))
 generalize p3 (p3 w1 (w.heap.size+1+1) (.slice a1 W.length c1) (.int .i64 (Q:Nat)) (.int .i64 (C:Nat))) (w.heap.size+1) (.slice a1 W.length c1) (.int .i64 (Q:Nat)) (.int .i64 (C:Nat))=WW at FF NF E0 E1 E2 ⊢
 have e0:=E0.out
 have e1:=E1.out
 have e2:=E2.out
 exact bodyPost_ret (v := .agg #[.slice a1 W.length c1,.int .i64 (Q:Nat),.int .i64 (C:Nat)]) (by simp[results,Tryz.results89,go_sem,e0,e1,e2]) rfl ⟨⟨a1,c1,rfl,FF.out⟩,NF.out⟩
theorem zfX (I:Int) (X R B E S:Bool) (D V A:Int) (a:Option Addr) (cap:Nat) (l:List Nat) (er:Nat) (w:World)
    (hw:∀w',Nb w w'->Calls Tryz.prog 111 #[.agg (Hd.cs ⟨2,I,X,R,B,E,S,D,V,A⟩ (.slice a l.length cap))] w' fun e w''=>z4B w' (wdC ⟨2,I,X,R,B,E,S,D,V,A⟩ l) (z1O ⟨2,I,X,R,B,E,S,D,V,A⟩ l) (z25 ⟨2,I,X,R,B,E,S,D,V,A⟩ l) er e w''/\Nb w' w'') :
    Calls Tryz.prog 89 #[.agg (Hd.cs ⟨2,I,X,R,B,E,S,D,V,A⟩ (.slice a l.length cap))] w fun e w'=>ziQ w ⟨2,I,X,R,B,E,S,D,V,A⟩ l e w'/\Nb w w':=by
 have e1:wF ⟨2,I,X,R,B,E,S,D,V,A⟩ l=wdC ⟨2,I,X,R,B,E,S,D,V,A⟩ l:=rfl
 have e2:z2J ⟨2,I,X,R,B,E,S,D,V,A⟩ l=z1O ⟨2,I,X,R,B,E,S,D,V,A⟩ l:=rfl
 have e3:z2P ⟨2,I,X,R,B,E,S,D,V,A⟩ l=z25 ⟨2,I,X,R,B,E,S,D,V,A⟩ l:=rfl
 unfold ziQ
 rw[e1,e2,e3]
 clear e1 e2 e3
 generalize wdC ⟨2,I,X,R,B,E,S,D,V,A⟩ l=W at *
 generalize z1O ⟨2,I,X,R,B,E,S,D,V,A⟩ l=Q at *
 generalize z25 ⟨2,I,X,R,B,E,S,D,V,A⟩ l=C at *
 simp only[Hd.cs]at hw ⊢
 have HW:=zH hw
 clear hw
 go_enter Tryz.func89,Tryz.ntmps89
 go_wp2_with fail
 refine(HW.out _ (((Nb.rfl.al _).al _).al _)).mono ?_
 rintro e w1 ⟨⟨a1,c1,rfl,f1⟩,n1⟩
 have m1:Nb w w1:=(((Nb.rfl.al _).al _).al _).tr n1
 have hy1:=((Blk.new (w.alloc (.cells #[.int .i64 2,.int .u32 I,.bool X,.bool R,.bool B,.bool E,.bool S,.int .u8 D,.int .u8 V,.int .u32 A,.slice a l.length cap] 37)) #[.slice none 0 0,.int .i64 0,.int .i64 0] 52).nb (Nb.rfl.al (.cells #[.slice none 0 0,.int .i64 0,.int .i64 0] 52))).nb n1
 have hz1:=(Blk.new ((w.alloc (.cells #[.int .i64 2,.int .u32 I,.bool X,.bool R,.bool B,.bool E,.bool S,.int .u8 D,.int .u8 V,.int .u32 A,.slice a l.length cap] 37)).alloc (.cells #[.slice none 0 0,.int .i64 0,.int .i64 0] 52)) #[.slice none 0 0,.int .i64 0,.int .i64 0] 52).nb n1
 simp only[World.size_alloc]at hy1 hz1
 have hf1:∀g,(Value.slice a1 W.length c1).ownBlock=some g->w.heap.size+1+1 < g:=fun g hg=>by
  have:=f1.2 g hg
  simp only[World.size_alloc]at this
  omega
 obtain⟨y0,y1,y2⟩:=hy1.c3
 obtain⟨z0,z1,z2⟩:=hz1.c3
 obtain⟨v0,v1,v2⟩:=hy1.f3
 obtain⟨u0,u1,u2⟩:=hz1.f3
 have hl1:=hy1.lt
 have hl2:=hz1.lt
 have hq:=hy1.keep (F:=fun b=>b=w.heap.size+1+1) (w':=p3 w1 (w.heap.size+1+1) (.slice a1 W.length c1) (.int .i64 (Q:Nat)) (.int .i64 (C:Nat))) (((Kp.set (F:=fun b=>b=w.heap.size+1+1) rfl).tr (Kp.set (F:=fun b=>b=w.heap.size+1+1) rfl) (fun _ h => .inl h)).tr (Kp.set (F:=fun b=>b=w.heap.size+1+1) rfl) (fun _ h => .inl h)) (by omega)
 obtain⟨e0,e1,e2⟩:=z1o (.slice a1 W.length c1) (.int .i64 (Q:Nat)) (.int .i64 (C:Nat)) hq
 have nf:=z3R (z3R m1 (b:=w.heap.size+1+1) (by omega) (.slice a1 W.length c1) (.int .i64 (Q:Nat)) (.int .i64 (C:Nat))) (b:=w.heap.size+1) (by omega) (.slice a1 W.length c1) (.int .i64 (Q:Nat)) (.int .i64 (C:Nat))
 have kset:∀(w':World) (b o:Nat) (v:Value),(b=w.heap.size+1\/b=w.heap.size+1+1)->Kp (fun b=>b=w.heap.size+1\/b=w.heap.size+1+1) w' (w'.setCell ⟨b,o,none⟩ v):=fun w' b o v h=>Kp.set (F:=fun b=>b=w.heap.size+1\/b=w.heap.size+1+1) (p:=⟨b,o,none⟩) h
 have ff:zf w (p3 (p3 w1 (w.heap.size+1+1) (.slice a1 W.length c1) (.int .i64 (Q:Nat)) (.int .i64 (C:Nat))) (w.heap.size+1) (.slice a1 W.length c1) (.int .i64 (Q:Nat)) (.int .i64 (C:Nat))) (.slice a1 W.length c1) W:=by
  refine⟨f1.1.keep (F:=fun b=>b=w.heap.size+1\/b=w.heap.size+1+1) ?_ (fun g hg=>by have:=hf1 g hg;omega),fun g hg=>by have:=hf1 g hg;omega⟩
  exact(((((kset _ _ _ _ (.inr rfl)).rr (kset _ _ _ _ (.inr rfl))).rr (kset _ _ _ _ (.inr rfl))).rr (kset _ _ _ _ (.inl rfl))).rr (kset _ _ _ _ (.inl rfl))).rr (kset _ _ _ _ (.inl rfl))
 have FF:=zH ff
 have NF:=zH nf
 have E0:=zH e0
 have E1:=zH e1
 have E2:=zH e2
 clear n1 m1 f1 hy1 hz1 nf ff HW e0 e1 e2 hq hf1 kset
 go_wp2
 change bodyPost _ _ _ _ _ (p3 (p3 w1 (w.heap.size+1+1) (.slice a1 W.length c1) (.int .i64 (Q:Nat)) (.int .i64 (C:Nat))) (w.heap.size+1) (.slice a1 W.length c1) (.int .i64 (Q:Nat)) (.int .i64 (C:Nat)))
 generalize p3 (p3 w1 (w.heap.size+1+1) (.slice a1 W.length c1) (.int .i64 (Q:Nat)) (.int .i64 (C:Nat))) (w.heap.size+1) (.slice a1 W.length c1) (.int .i64 (Q:Nat)) (.int .i64 (C:Nat))=WW at FF NF E0 E1 E2 ⊢
 have e0:=E0.out
 have e1:=E1.out
 have e2:=E2.out
 exact bodyPost_ret (v := .agg #[.slice a1 W.length c1,.int .i64 (Q:Nat),.int .i64 (C:Nat)]) (by simp[results,Tryz.results89,go_sem,e0,e1,e2]) rfl ⟨⟨a1,c1,rfl,FF.out⟩,NF.out⟩
theorem zhb (I:Int) (X R B E S:Bool) (D V A:Int) (a:Option Addr) (cap:Nat) (l:List Nat) (er:Nat) (w:World)
    (hw:∀w',Nb w w'->Calls Tryz.prog 112 #[.agg (Hd.cs ⟨3,I,X,R,B,E,S,D,V,A⟩ (.slice a l.length cap))] w' fun e w''=>z4B w' (wxC ⟨3,I,X,R,B,E,S,D,V,A⟩ l) (z1y ⟨3,I,X,R,B,E,S,D,V,A⟩ l) (z29 ⟨3,I,X,R,B,E,S,D,V,A⟩ l) er e w''/\Nb w' w'') :
    Calls Tryz.prog 89 #[.agg (Hd.cs ⟨3,I,X,R,B,E,S,D,V,A⟩ (.slice a l.length cap))] w fun e w'=>ziQ w ⟨3,I,X,R,B,E,S,D,V,A⟩ l e w'/\Nb w w':=by
 have e1:wF ⟨3,I,X,R,B,E,S,D,V,A⟩ l=wxC ⟨3,I,X,R,B,E,S,D,V,A⟩ l:=rfl
 have e2:z2J ⟨3,I,X,R,B,E,S,D,V,A⟩ l=z1y ⟨3,I,X,R,B,E,S,D,V,A⟩ l:=rfl
 have e3:z2P ⟨3,I,X,R,B,E,S,D,V,A⟩ l=z29 ⟨3,I,X,R,B,E,S,D,V,A⟩ l:=rfl
 unfold ziQ
 rw[e1,e2,e3]
 clear e1 e2 e3
 generalize wxC ⟨3,I,X,R,B,E,S,D,V,A⟩ l=W at *
 generalize z1y ⟨3,I,X,R,B,E,S,D,V,A⟩ l=Q at *
 generalize z29 ⟨3,I,X,R,B,E,S,D,V,A⟩ l=C at *
 simp only[Hd.cs]at hw ⊢
 have HW:=zH hw
 clear hw
 go_enter Tryz.func89,Tryz.ntmps89
 go_wp2_with fail
 refine(HW.out _ (((Nb.rfl.al _).al _).al _)).mono ?_
 rintro e w1 ⟨⟨a1,c1,rfl,f1⟩,n1⟩
 have m1:Nb w w1:=(((Nb.rfl.al _).al _).al _).tr n1
 have hy1:=((Blk.new (w.alloc (.cells #[.int .i64 3,.int .u32 I,.bool X,.bool R,.bool B,.bool E,.bool S,.int .u8 D,.int .u8 V,.int .u32 A,.slice a l.length cap] 37)) #[.slice none 0 0,.int .i64 0,.int .i64 0] 52).nb (Nb.rfl.al (.cells #[.slice none 0 0,.int .i64 0,.int .i64 0] 52))).nb n1
 have hz1:=(Blk.new ((w.alloc (.cells #[.int .i64 3,.int .u32 I,.bool X,.bool R,.bool B,.bool E,.bool S,.int .u8 D,.int .u8 V,.int .u32 A,.slice a l.length cap] 37)).alloc (.cells #[.slice none 0 0,.int .i64 0,.int .i64 0] 52)) #[.slice none 0 0,.int .i64 0,.int .i64 0] 52).nb n1
 simp only[World.size_alloc]at hy1 hz1
 have hf1:∀g,(Value.slice a1 W.length c1).ownBlock=some g->w.heap.size+1+1 < g:=fun g hg=>by
  have:=f1.2 g hg
  simp only[World.size_alloc]at this
  omega
 obtain⟨y0,y1,y2⟩:=hy1.c3
 obtain⟨z0,z1,z2⟩:=hz1.c3
 obtain⟨v0,v1,v2⟩:=hy1.f3
 obtain⟨u0,u1,u2⟩:=hz1.f3
 have hl1:=hy1.lt
 have hl2:=hz1.lt
 have hq:=hy1.keep (F:=fun b=>b=w.heap.size+1+1) (w':=p3 w1 (w.heap.size+1+1) (.slice a1 W.length c1) (.int .i64 (Q:Nat)) (.int .i64 (C:Nat))) (((Kp.set (F:=fun b=>b=w.heap.size+1+1) rfl).tr (Kp.set (F:=fun b=>b=w.heap.size+1+1) rfl) (fun _ h => .inl h)).tr (Kp.set (F:=fun b=>b=w.heap.size+1+1) rfl) (fun _ h => .inl h)) (by omega)
 obtain⟨e0,e1,e2⟩:=z1o (.slice a1 W.length c1) (.int .i64 (Q:Nat)) (.int .i64 (C:Nat)) hq
 have nf:=z3R (z3R m1 (b:=w.heap.size+1+1) (by omega) (.slice a1 W.length c1) (.int .i64 (Q:Nat)) (.int .i64 (C:Nat))) (b:=w.heap.size+1) (by omega) (.slice a1 W.length c1) (.int .i64 (Q:Nat)) (.int .i64 (C:Nat))
 have kset:∀(w':World) (b o:Nat) (v:Value),(b=w.heap.size+1\/b=w.heap.size+1+1)->Kp (fun b=>b=w.heap.size+1\/b=w.heap.size+1+1) w' (w'.setCell ⟨b,o,none⟩ v):=fun w' b o v h=>Kp.set (F:=fun b=>b=w.heap.size+1\/b=w.heap.size+1+1) (p:=⟨b,o,none⟩) h
 have ff:zf w (p3 (p3 w1 (w.heap.size+1+1) (.slice a1 W.length c1) (.int .i64 (Q:Nat)) (.int .i64 (C:Nat))) (w.heap.size+1) (.slice a1 W.length c1) (.int .i64 (Q:Nat)) (.int .i64 (C:Nat))) (.slice a1 W.length c1) W:=by
  refine⟨f1.1.keep (F:=fun b=>b=w.heap.size+1\/b=w.heap.size+1+1) ?_ (fun g hg=>by have:=hf1 g hg;omega),fun g hg=>by have:=hf1 g hg;omega⟩
  exact(((((kset _ _ _ _ (.inr rfl)).rr (kset _ _ _ _ (.inr rfl))).rr (kset _ _ _ _ (.inr rfl))).rr (kset _ _ _ _ (.inl rfl))).rr (kset _ _ _ _ (.inl rfl))).rr (kset _ _ _ _ (.inl rfl))
 have FF:=zH ff
 have NF:=zH nf
 have E0:=zH e0
 have E1:=zH e1
 have E2:=zH e2
 clear n1 m1 f1 hy1 hz1 nf ff HW e0 e1 e2 hq hf1 kset
 go_wp2
 change bodyPost _ _ _ _ _ (p3 (p3 w1 (w.heap.size+1+1) (.slice a1 W.length c1) (.int .i64 (Q:Nat)) (.int .i64 (C:Nat))) (w.heap.size+1) (.slice a1 W.length c1) (.int .i64 (Q:Nat)) (.int .i64 (C:Nat)))
 generalize p3 (p3 w1 (w.heap.size+1+1) (.slice a1 W.length c1) (.int .i64 (Q:Nat)) (.int .i64 (C:Nat))) (w.heap.size+1) (.slice a1 W.length c1) (.int .i64 (Q:Nat)) (.int .i64 (C:Nat))=WW at FF NF E0 E1 E2 ⊢
 have e0:=E0.out
 have e1:=E1.out
 have e2:=E2.out
 exact bodyPost_ret (v := .agg #[.slice a1 W.length c1,.int .i64 (Q:Nat),.int .i64 (C:Nat)]) (by simp[results,Tryz.results89,go_sem,e0,e1,e2]) rfl ⟨⟨a1,c1,rfl,FF.out⟩,NF.out⟩
theorem zbI (f:Hd) (a:Option Addr) (cap:Nat) (l:List Nat) (w:World) (h:Bs w a cap l) (hok:okF f l=true) (hW:WdX f) (hB:z0i w) :
    Calls Tryz.prog 89 #[.agg (f.cs (.slice a l.length cap))] w fun e w'=>ziQ w f l e w'/\Nb w w':=by
 have hk:=z3Y hok
 have hI:0<=f.I:=by unfold WdX at hW;omega
 have h6:=fun w' (n:Nb w w')=>zcV f a cap l w' (h.below n) hI (hB.below n).1 (hB.below n).2
 have h7:=fun w' (n:Nb w w')=>zfA f a cap l w' (h.below n) hI (hB.below n).1 (hB.below n).2
 have h8:=fun w' (n:Nb w w')=>zdf f a cap l w' (h.below n) hW (hB.below n).1 (hB.below n).2
 obtain⟨K,I,X,R,B,E,S,D,V,A⟩:=f
 simp only at hk
 rcases hk with rfl | rfl | rfl
 ·exact zg7 I X R B E S D V A a cap l _ w h6
 ·exact zfX I X R B E S D V A a cap l _ w h7
 ·exact zhb I X R B E S D V A a cap l _ w h8
theorem zbH (f:Hd) (a:Option Addr) (cap:Nat) (l:List Nat) (w:World) (h:Bs w a cap l) (hok:okF f l=true) (hW:WdX f) (hB:z0i w) (hl:l.length<=140737488355328) :
    Calls Tryz.prog 63 #[.agg (f.cs (.slice a l.length cap))] w fun e w'=>(∃ld G,e = .returned ld/\z1e w' ld f l G/\(∀k,G k->w.heap.size<=k)/\∀k,G k->k < w'.heap.size)/\Nb w w':=by
 have HO:=zH (fun w' (n:Nb w w')=>zbI f a cap l w' (h.below n) hok hW (hB.below n))
 have HC:=zH (fun w' (n:Nb w w')=>zbq f a cap l w' (h.below n) hl)
 obtain⟨K,I,X,R,B,E,S,D,V,A⟩:=f
 simp only[Hd.cs]at HO HC ⊢
 obtain⟨w0,hw0⟩:∃w0,w0=w.alloc (.cells #[.int .i64 K,.int .u32 I,.bool X,.bool R,.bool B,.bool E,.bool S,.int .u8 D,.int .u8 V,.int .u32 A,.slice a l.length cap] 37):=⟨_,rfl⟩
 have N0:=zH (show Nb w w0 by rw[hw0];exact Nb.rfl.al _)
 have Q0:=zH (show Blk w0 w.heap.size #[.int .i64 K,.int .u32 I,.bool X,.bool R,.bool B,.bool E,.bool S,.int .u8 D,.int .u8 V,.int .u32 A,.slice a l.length cap] 37 by rw[hw0];exact Blk.new _ _ _)
 have HW0:=zH hw0
 have KC:=zH (fun w' (k:Nb w0 w')=>(Q0.out.nb k).c11)
 have NBk:Hid (Nb w0 w0.drew):=zH (Nb.drewN w0 1)
 clear h hok hW hB hl hw0
 go_enter Tryz.func63,Tryz.ntmps63
 go_wp2_with fail
 rw[<- HW0.out]
 obtain⟨c0,c1,c2,c3,c4,c5,c6,c7,c8,c9,c10⟩:=Q0.out.c11
 go_region_held3 (fun w'=>w'.cell? ⟨w.heap.size,0,none⟩=some (.int .i64 K)/\w'.cell? ⟨w.heap.size,1,none⟩=some (.int .u32 I)/\w'.cell? ⟨w.heap.size,2,none⟩=some (.bool X)/\w'.cell? ⟨w.heap.size,3,none⟩=some (.bool R)/\w'.cell? ⟨w.heap.size,4,none⟩=some (.bool B)/\w'.cell? ⟨w.heap.size,5,none⟩=some (.bool E)/\w'.cell? ⟨w.heap.size,6,none⟩=some (.bool S)/\w'.cell? ⟨w.heap.size,7,none⟩=some (.int .u8 D)/\w'.cell? ⟨w.heap.size,8,none⟩=some (.int .u8 V)/\w'.cell? ⟨w.heap.size,9,none⟩=some (.int .u32 A)/\w'.cell? ⟨w.heap.size,10,none⟩=some (.slice a l.length cap)) (first | go_keep | exact KC.out _ NBk.out | exact KC.out _ (NBk.out.al _)) ((first
  | (go_at_call 88
     refine(HC.out _ (N0.out.tr NBk.out)).mono ?_
     rintro e w5 ⟨⟨a5,p5,rfl,f5⟩,n5⟩
     have FR5:=zH f5
     have SZ5:=zH (N0.out.tr NBk.out).size
     have NBk:=zH (NBk.out.tr n5)
     have N5:=zH (fun w' (k:Nb w5 w')=>k)
     clear f5 n5)
  | (go_at_call 89
     refine(HO.out _ (N0.out.tr NBk.out)).mono ?_
     rintro e w6 ⟨⟨a6,p6,rfl,f6⟩,n6⟩
     have FR6:=zH f6
     have SZ6:=zH (N0.out.tr NBk.out).size
     have FR5:=zH (FR5.out.keep n6)
     have NBk:=zH (NBk.out.tr n6)
     clear f6 n6)))
 go_wp2
 go_ret
 have n67:Nb w6 (w6.alloc (.cells #[.int .i64 K,.int .u32 I,.bool X,.bool R,.bool B,.bool E,.bool S,.int .u8 D,.int .u8 V,.int .u32 A,.slice a5 l.length p5,.slice a6 (wF ⟨K,I,X,R,B,E,S,D,V,A⟩ l).length p6,.int .i64 (z2J ⟨K,I,X,R,B,E,S,D,V,A⟩ l:Nat),.int .i64 (z2P ⟨K,I,X,R,B,E,S,D,V,A⟩ l:Nat)] 158)):=Nb.rfl.al _
 have hb:=Blk.new w6 #[.int .i64 K,.int .u32 I,.bool X,.bool R,.bool B,.bool E,.bool S,.int .u8 D,.int .u8 V,.int .u32 A,.slice a5 l.length p5,.slice a6 (wF ⟨K,I,X,R,B,E,S,D,V,A⟩ l).length p6,.int .i64 (z2J ⟨K,I,X,R,B,E,S,D,V,A⟩ l:Nat),.int .i64 (z2P ⟨K,I,X,R,B,E,S,D,V,A⟩ l:Nat)] 158
 have hsz:=(N0.out.tr NBk.out).size
 refine⟨⟨_,fun k=>w.heap.size<=k/\k < (w6.alloc (.cells #[.int .i64 K,.int .u32 I,.bool X,.bool R,.bool B,.bool E,.bool S,.int .u8 D,.int .u8 V,.int .u32 A,.slice a5 l.length p5,.slice a6 (wF ⟨K,I,X,R,B,E,S,D,V,A⟩ l).length p6,.int .i64 (z2J ⟨K,I,X,R,B,E,S,D,V,A⟩ l:Nat),.int .i64 (z2P ⟨K,I,X,R,B,E,S,D,V,A⟩ l:Nat)] 158)).heap.size,rfl,⟨w6.heap.size,a5,p5,a6,p6,rfl,hb,FR5.out.1.asBs.1.below n67,FR6.out.1.asBs.1.below n67,⟨hsz,hb.lt⟩,fun b o t e => ?_,fun b o t e => ?_⟩,fun k hk=>hk.1,fun k hk=>hk.2⟩,(N0.out.tr NBk.out).tr n67⟩
 ·have h1:=FR5.out.2 b (by rw[e];rfl)
  have h2:=FR5.out.1.lt (g:=b) (by rw[e];rfl)
  exact⟨by have:=SZ5.out;omega,Nat.lt_of_lt_of_le h2 n67.size⟩
 ·have h1:=FR6.out.2 b (by rw[e];rfl)
  have h2:=FR6.out.1.lt (g:=b) (by rw[e];rfl)
  exact⟨by have:=SZ6.out;omega,Nat.lt_of_lt_of_le h2 n67.size⟩
theorem zfT(kn:Bool)(w:World):Calls Tryz.prog 28 #[.bool kn] w fun e w'=>∃R,e = .returned (.pointer (some ⟨R,0,none⟩))/\w.heap.size<=R/\NB w' R (Nd.new kn) 0 (.pointer none) (.pointer none)/\Nb w w':=by
 go_enter Tryz.func28,Tryz.ntmps28
 go_wp2
 go_ret
 exact⟨_,rfl,Nat.le_refl _,Blk.new w _ _,Nb.rfl.al _⟩
theorem zbL(R:Nat)(n:Nd)(c:Nat)(ld rw:Value)(w:World)(h:NB w R n c ld rw)(hl:(∃L,ld = .pointer (some ⟨L,0,none⟩))/\n.has=true\/ld = .pointer none/\n.has=false):Calls Tryz.prog 23 #[.pointer (some ⟨R,0,none⟩)] w fun e w'=>e = .returned (.agg #[.int .i64 (n.ph:Nat),.int .i64 (c:Nat),.int .i64 n.fa.T,.int .i64 n.fa.R,.bool n.fa.O,.bool n.has])/\Nb w w':=by
 have hRw:=NB.lt h
 obtain⟨c0,c1,c2,c3,c4,c5,c6,c7,c8,c9⟩:=Blk.c10 h
 have h0:NB (w.alloc (.cells #[.int .i64 0,.int .i64 0,.int .i64 0,.int .i64 0,.bool false,.bool false] 47)) R n c ld rw:=h.nb (Nb.rfl.al _)
 have H:=zH h0
 clear h0
 rcases hl with ⟨⟨L,rfl⟩,hh⟩ | ⟨rfl,hh⟩
 all_goals rw[hh]
 all_goals clear h hh
 all_goals go_enter Tryz.func23,Tryz.ntmps23
 all_goals go_wp2_with fail
 all_goals obtain⟨d0,d1,d2,d3,d4,d5,d6,d7,d8,d9⟩:=Blk.c10 H.out
 all_goals go_region
 all_goals go_wp2
 all_goals exact bodyPost_ret (by simp[results,Tryz.results23,go_sem]) rfl ⟨rfl,by first | exact(Nb.rfl.al _).tr (Nb.drewN _ 1) | exact(Nb.drewN _ 1).tr (Nb.rfl.al _) | exact(Nb.drewN _ _).al _⟩
theorem zgM{f:Hd}{l:List Nat}(h:okF f l=true):l.length<=2048:=by
 have h1:z2K f.K (l.length:Int)=true:=by
  cases hq:z2K f.K (l.length:Int) with
  | true=>rfl
  | false=>simp[okF,hq]at h
 obtain⟨g1,g2⟩:=(z17 _ _).1 h1
 have:=zkB _ _ g1
 omega
def zbM(w:World)(ld:Value)(n:Nd)(G:Nat->Prop):Prop:=(n.has=true->z1e w ld n.f n.l G)/\(n.has=false->ld = .pointer none)
theorem zbM.two(h:zbM w ld n G):(∃L,ld = .pointer (some ⟨L,0,none⟩))/\n.has=true\/ld = .pointer none/\n.has=false:=by
 cases hh:n.has with
 | true=>exact .inl ⟨(h.1 hh).ptr,rfl⟩
 | false=>exact .inr ⟨h.2 hh,rfl⟩
theorem zbM.self(h:zbM w ld n G):ld=if n.has then ld else .pointer none:=by
 cases hh:n.has with
 | true=>rfl
 | false=>exact h.2 hh
theorem ze3 (R:Nat) (n:Nd) (c:Nat) (ld rw:Value) (f:Hd) (a:Option Addr) (cap:Nat) (l:List Nat) (w:World) (h:NB w R n c ld rw) (hl:(∃L,ld = .pointer (some ⟨L,0,none⟩))/\n.has=true\/ld = .pointer none/\n.has=false) (hB:z0i w) (hbs:Bs w a cap l) (hW:WdX f) :
    Calls Tryz.prog 30 #[.pointer (some ⟨R,0,none⟩),.agg (f.cs (.slice a l.length cap))] w fun e w'=>e = .returned (.int .i64 (n.loadE f l:Nat))/\(if n.loadE f l=0 then ∃ld' G,NB w' R n c ld' rw/\z1e w' ld' f l G/\(∀k,G k->w.heap.size<=k)/\(∀k,G k->k < w'.heap.size)else NB w' R n c ld rw)/\Kp (fun b=>b=R) w w':=by
 have hck:=fun w' (k:Nb w w')=>z0J f a cap l w' (hbs.below k) (hB.below k).2
 have HLD:=zH (fun w' (k:Nb w w') (ho:okF f l=true)=>zbH f a cap l w' (hbs.below k) ho hW (hB.below k) (by have:=zgM ho;omega))
 have hRw:=NB.lt h
 unfold Nd.loadE
 cases hok:okF f l with
 | false =>
   rw[show zt f l=2 by simp[zt,hok]]at hck
   have HCK:=zH hck
   have H:=zH h
   clear hck hok h hB hbs hW HLD
   obtain⟨K,I,X,Rr,B,E,S,D,V,A⟩:=f
   simp only[Hd.cs]at HCK ⊢
   go_enter Tryz.func30,Tryz.ntmps30
   go_wp2_with fail
   refine(HCK.out _ (Nb.rfl.al _)).mono ?_
   rintro e w1 ⟨rfl,n1⟩
   have Q1:=zH (H.out.nb ((Nb.rfl.al _).tr n1))
   have N1:=zH (show Nb w w1 from(Nb.rfl.al _).tr n1)
   clear n1
   go_wp2
   go_ret
   exact⟨rfl,by simpa using Q1.out,Kp.ofNb N1.out⟩
 | true =>
   rw[show zt f l=0 by simp[zt,hok]]at hck
   have HCK:=zH hck
   have HLK:=zH (fun w' (k:Nb w w')=>HLD.out w' k hok)
   have H:=zH h
   clear hck hok hB hbs hW HLD
   obtain⟨K,I,X,Rr,B,E,S,D,V,A⟩:=f
   have HQ:=zH (Blk.new w #[.int .i64 K,.int .u32 I,.bool X,.bool Rr,.bool B,.bool E,.bool S,.int .u8 D,.int .u8 V,.int .u32 A,.slice a l.length cap] 37)
   simp only[Hd.cs]at HCK HLK ⊢
   have hkn:∃kb,n.kn=kb:=⟨_,rfl⟩
   obtain⟨kb,hkb⟩:=hkn
   by_cases hal:K=3/\n.kn=false
   ·rw[if_neg (by simp),if_pos hal]
    obtain⟨hK,hkn⟩:=hal
    have dK:((K:Int)==3)=true:=by rw[beq_iff_eq];exact hK
    clear h hkb hK
    go_enter Tryz.func30,Tryz.ntmps30
    go_wp2_with fail
    refine(HCK.out _ (Nb.rfl.al _)).mono ?_
    rintro e w1 ⟨rfl,n1⟩
    obtain⟨x0,x1,x2,x3,x4,x5,x6,x7,x8,x9,x10⟩:=(HQ.out.nb n1).c11
    obtain⟨c0,c1,c2,c3,c4,c5,c6,c7,c8,c9⟩:=Blk.c10 (H.out.nb ((Nb.rfl.al (.cells #[.int .i64 K,.int .u32 I,.bool X,.bool Rr,.bool B,.bool E,.bool S,.int .u8 D,.int .u8 V,.int .u32 A,.slice a l.length cap] 37)).tr n1))
    rw[hkn]at c0
    have Q1:=zH (H.out.nb ((Nb.rfl.al _).tr n1))
    have N1:=zH (show Nb w w1 from(Nb.rfl.al _).tr n1)
    clear n1
    go_wp2
    go_ret
    exact⟨rfl,by simpa using Q1.out,Kp.ofNb N1.out⟩
   ·have ht:(if(true:Bool)=false then 2 else if K=3/\n.kn=false then 10 else if n.has=true then 8 else 0)=(if n.has=true then 8 else 0):=by rw[if_neg (by simp),if_neg hal]
    simp only[if_neg hal,Bool.true_eq_false,if_false]
    have hK3:K=3->n.kn=true:=fun h3=>by
     cases hq:n.kn with
     | true=>rfl
     | false=>exact absurd ⟨h3,hq⟩ hal
    clear ht hal
    have hcase:((K:Int)==3)=false\/(((K:Int)==3)=true/\n.kn=true):=by
     by_cases h3:K=3
     ·exact .inr ⟨by rw[beq_iff_eq];exact h3,hK3 h3⟩
     ·exact .inl (by rw[beq_eq_false_iff_ne];exact h3)
    clear hK3 hkb
    rcases hl with ⟨⟨L,rfl⟩,hh⟩ | ⟨rfl,hh⟩
    ·rw[if_pos hh]
     clear h hh
     rcases hcase with d3 | ⟨d3,hkn⟩
     all_goals go_enter Tryz.func30,Tryz.ntmps30
     all_goals go_wp2_with fail
     all_goals refine(HCK.out _ (Nb.rfl.al _)).mono ?_
     all_goals rintro e w1 ⟨rfl,n1⟩
     all_goals obtain⟨x0,x1,x2,x3,x4,x5,x6,x7,x8,x9,x10⟩:=(HQ.out.nb n1).c11
     all_goals obtain⟨c0,c1,c2,c3,c4,c5,c6,c7,c8,c9⟩:=Blk.c10 (H.out.nb ((Nb.rfl.al (.cells #[.int .i64 K,.int .u32 I,.bool X,.bool Rr,.bool B,.bool E,.bool S,.int .u8 D,.int .u8 V,.int .u32 A,.slice a l.length cap] 37)).tr n1))
     all_goals try rw[hkn]at c0
     all_goals have Q1:=zH (H.out.nb ((Nb.rfl.al _).tr n1))
     all_goals have N1:=zH (show Nb w w1 from(Nb.rfl.al _).tr n1)
     all_goals clear n1
     all_goals go_wp2
     all_goals go_ret
     all_goals exact⟨rfl,by simpa using Q1.out,Kp.ofNb N1.out⟩
    ·rw[if_neg (show ¬n.has=true by rw[hh];simp)]
     simp only[eq_self_iff_true,if_true]
     clear h hh
     rcases hcase with d3 | ⟨d3,hkn⟩
     all_goals go_enter Tryz.func30,Tryz.ntmps30
     all_goals go_wp2_with fail
     all_goals refine(HCK.out _ (Nb.rfl.al _)).mono ?_
     all_goals rintro e w1 ⟨rfl,n1⟩
     all_goals obtain⟨x0,x1,x2,x3,x4,x5,x6,x7,x8,x9,x10⟩:=(HQ.out.nb n1).c11
     all_goals obtain⟨c0,c1,c2,c3,c4,c5,c6,c7,c8,c9⟩:=Blk.c10 (H.out.nb ((Nb.rfl.al (.cells #[.int .i64 K,.int .u32 I,.bool X,.bool Rr,.bool B,.bool E,.bool S,.int .u8 D,.int .u8 V,.int .u32 A,.slice a l.length cap] 37)).tr n1))
     all_goals try rw[hkn]at c0
     all_goals have Q1:=zH (H.out.nb ((Nb.rfl.al _).tr n1))
     all_goals have N1:=zH (show Nb w w1 from(Nb.rfl.al _).tr n1)
     all_goals have HL1:=zH (HLK.out w1 N1.out)
     all_goals clear n1
     all_goals go_wp2_with fail
     all_goals refine HL1.out.mono ?_
     all_goals rintro e w2 ⟨⟨ld2,G2,rfl,m2,g2,g3⟩,n2⟩
     all_goals obtain⟨L2,rfl⟩:=m2.ptr
     all_goals have Q2:=zH (Q1.out.nb n2)
     all_goals have M2:=zH m2
     all_goals have G2':=zH g2
     all_goals have G3':=zH g3
     all_goals have N2:=zH (N1.out.tr n2)
     all_goals clear m2 g2 g3 n2 c0 c1 c2 c3 c4 c5 c6 c7 c8 c9
     all_goals obtain⟨c0,c1,c2,c3,c4,c5,c6,c7,c8,c9⟩:=Blk.c10 (Q2.out)
     all_goals obtain⟨f0,f1,f2,f3,f4,f5,f6,f7,f8,f9⟩:=Blk.f10 (Q2.out)
     all_goals go_wp2
     all_goals go_ret
     all_goals refine⟨rfl,⟨_,G2,Blk.set Q2.out 6 (.pointer (some ⟨L2,0,none⟩)),M2.out.keep (Kp.r1 (R:=R) 6 _) (fun k hk e => ?_),fun k hk => ?_,fun k hk=>by simpa [World.setCell]using G3'.out k hk⟩,Kp.nr N2.out (Kp.r1 _ _)⟩
     all_goals have h1:=G2'.out k hk
     all_goals have h2:=N1.out.size
     all_goals first | omega | (subst e;omega)
def z0N(w:World)(v:Value)(n:Nd)(F:Nat->Prop):Prop :=
 ∃R ld rw GL GM,v = .pointer (some ⟨R,0,none⟩)/\NB w R n n.count ld rw/\zbM w ld n GL/\z0W w rw n GM/\F R/\(∀k,GL k->F k/\k≠R/\¬GM k)/\(∀k,GM k->F k/\k≠R)/\∀k,F k->k < w.heap.size
theorem z34(h:z0N w v n F):∀k,F k->k < w.heap.size:=by
 obtain⟨_,_,_,_,_,_,_,_,_,_,_,_,h⟩:=h
 exact h
theorem z0G(h:z0N w v n F)(hk:Kp G w w')(hn:∀k,F k->¬G k):z0N w' v n F:=by
 obtain⟨R,ld,rw,GL,GM,h1,h2,h3,h4,h5,h6,h7,h8⟩:=h
 exact⟨R,ld,rw,GL,GM,h1,h2.keep hk (hn R h5),⟨fun hh=>(h3.1 hh).keep hk (fun k q=>hn k (h6 k q).1),h3.2⟩,h4.keep hk (fun k q=>hn k (h7 k q).1),h5,h6,h7,fun k q=>Nat.lt_of_lt_of_le (h8 k q) hk.size⟩
theorem zea(kn:Bool)(w:World)(_hB:z0i w):Calls Tryz.prog 28 #[.bool kn] w (zll z0N w kn):=by
 refine(zfT kn w).mono ?_
 rintro e w1 ⟨R,rfl,hR,q,n1⟩
 refine⟨_,fun k=>k=R,rfl,⟨R,.pointer none,.pointer none,fun _=>False,fun _=>False,rfl,q,⟨fun h=>(by cases h),fun _=>rfl⟩,rfl,rfl,fun _ h=>h.elim,fun _ h=>h.elim,fun k hk=>hk ▸ NB.lt q⟩,fun k hk=>hk ▸ hR,n1⟩
theorem RT.node {R:Nat} {m:Nd} {ev:Ev} {GL GM:Nat->Prop} {u:Value} (hh:zbM w ld n GL) (hF:F R) (h6:∀k,GL k->F k/\k≠R/\¬GM k) (h7:∀k,GM k->F k/\k≠R) (h8:∀k,F k->k < w.heap.size) (hfl:m.has=true->n.has=true/\m.f=n.f/\m.l=n.l) (he1:ev.k=1->m.has=false/\m.ph=8) (he2:ev.k=2->m.ph=4) (r:RT w R m ev ld GL GM (.returned u) w') :
    ∃F',(∃a c,u=evV ev (.slice a ev.l.length c)/\Bs w' a c ev.l/\∀b o t,a=some ⟨b,o,t⟩->¬F' b/\(F b\/w.heap.size<=b))/\z0N w' (.pointer (some ⟨R,0,none⟩)) m F'/\Kp F w w'/\∀k,F' k->F k\/w.heap.size<=k:=by
 obtain⟨G,l2,r2,a,c,q1,q2,q3,q4,q5,q6,q7,q8,q9⟩:=r
 cases q1
 have hRlt:=h8 R hF
 have e1:m.has=true->(fun k=>m.has=true/\GL k)=GL:=fun h=>funext fun k=>propext ⟨fun q=>q.2,fun q=>⟨h,q⟩⟩
 have e2:m.ph=2\/m.ph=3->(fun k=>(m.ph=2\/m.ph=3)/\G k)=G:=fun h=>funext fun k=>propext ⟨fun q=>q.2,fun q=>⟨h,q⟩⟩
 have hGM:∀k,G k->k≠R/\(F k\/w.heap.size<=k):=fun k hk=>by
  rcases q7 k hk with h | h
  ·exact⟨(h7 k h).2,.inl (h7 k h).1⟩
  ·exact⟨by omega,.inr h⟩
 have hGL:∀k,GL k->¬G k:=fun k hk hg=>by
  rcases q7 k hg with h | h
  ·exact(h6 k hk).2.2 h
  ·have:=h8 k (h6 k hk).1;omega
 have hnew:∀k,w.heap.size<=k->k≠R/\¬GL k:=fun k hk=>⟨by omega,fun hg=>by have:=h8 k (h6 k hg).1;omega⟩
 refine⟨fun k=>k=R\/(m.has=true/\GL k)\/((m.ph=2\/m.ph=3)/\G k),⟨a,c,rfl,q2,fun b o t e => ?_⟩,⟨R,l2,r2,fun k=>m.has=true/\GL k,fun k=>(m.ph=2\/m.ph=3)/\G k,rfl,q4,⟨fun hm => ?_,fun hm => ?_⟩,?_,.inl rfl,fun k hk=>⟨.inr (.inl hk),(h6 k hk.2).2.1,fun hg=>hGL k hk.2 hg.2⟩,fun k hk=>⟨.inr (.inr hk),(hGM k hk.2).1⟩,fun k hk => ?_⟩,q9.mono (fun k _ hk => ?_),fun k hk => ?_⟩
 ·rcases q3 b o t e with ⟨hk,h⟩ | ⟨hk,h⟩ | ⟨hk,h⟩
  ·refine⟨fun hf => ?_,.inl (h6 b h).1⟩
   obtain⟨g1,g2⟩:=he1 hk
   rcases hf with hf | hf | hf
   ·exact(h6 b h).2.1 hf
   ·rw[g1]at hf;cases hf.1
   ·omega
  ·refine⟨fun hf => ?_,(hGM b h).2⟩
   have g2:=he2 hk
   rcases hf with hf | hf | hf
   ·exact(hGM b h).1 hf
   ·exact hGL b hf.2 h
   ·omega
  ·refine⟨fun hf => ?_,.inr h⟩
   have g2:=he2 hk
   rcases hf with hf | hf | hf
   ·exact(hnew b h).1 hf
   ·exact(hnew b h).2 hf.2
   ·omega
 ·obtain⟨g1,g2,g3⟩:=hfl hm
  rw[q5,if_pos hm,g2,g3,e1 hm]
  exact(hh.1 g1).keep q9 (fun k hk hq=>by
   rcases hq with h | h
   ·exact(h6 k hk).2.1 h
   ·exact(h6 k hk).2.2 h)
 ·rw[q5,if_neg (by rw[hm];simp)]
 ·by_cases hp:m.ph=2\/m.ph=3
  ·rw[e2 hp]
   exact q6
  ·unfold z0W at q6 ⊢
   rw[if_neg hp]at q6 ⊢
   exact q6
 ·rcases hk with h | h | h
  ·exact h ▸ Nat.lt_of_lt_of_le hRlt q9.size
  ·exact Nat.lt_of_lt_of_le (h8 k (h6 k h.2).1) q9.size
  ·exact q8 k h.2
 ·rcases hk with h | h
  ·exact h ▸ hF
  ·exact(h7 k h).1
 ·rcases hk with h | h | h
  ·exact .inl (h ▸ hF)
  ·exact .inl (h6 k h.2).1
  ·exact(hGM k h.2).2
theorem Nd.cnt0(h:n.ph≠3):n.count=n.c:=by unfold Nd.count;rw[if_neg h]
theorem zcN (v:Value) (n:Nd) (F:Nat->Prop) (b:Nat) (w:World) (h:z0N w v n F) (hO:n.Ok) (hx:n.ph=3->n.x.length<=60100) (hB:z0i w) (hb:b<=1) :
    Calls Tryz.prog 67 #[v,.int .u8 (b:Nat)] w (zdh z0N w v (n.step b) F):=by
 obtain⟨R,ld,rw,GL,GM,rfl,h2,h3,h4,h5,h6,h7,h8⟩:=h
 have hcx:CxN w R GL GM:=⟨h8 R h5,fun k hk=>h8 k (h6 k hk).1,fun k hk=>h8 k (h7 k hk).1⟩
 have so:=z9P hO hb
 have fin:∀e w',(∃u,e = .returned (.tuple #[u,.int .i64 0])/\RT w R (n.step b).1 (n.step b).2 ld GL GM (.returned u) w')->zdh z0N w (.pointer (some ⟨R,0,none⟩)) (n.step b) F e w':=by
  rintro e w' ⟨u,rfl,r⟩
  obtain⟨F',⟨a,c,rfl,g1,g2⟩,g3,g4,g5⟩:=RT.node (n:=n) h3 h5 h6 h7 h8 (fun hm=>by
   have h9:=so.has
   rw[hm]at h9
   have:n.has=true:=by
    cases hq:n.has with
    | true=>rfl
    | false=>rw[hq]at h9;simp at h9
   exact⟨this,so.fl hm⟩) (fun hk=>⟨by rw[so.has,hk];simp,(zda n b).2.1 hk⟩) (fun hk=>(zda n b).1 hk) r
  exact⟨F',⟨a,c,rfl,g1,g2⟩,g3,g4,g5⟩
 have hl:=h3.self
 have hRL:¬GL R:=fun hk=>(h6 R hk).2.1 rfl
 have hRM:¬GM R:=fun hk=>(h7 R hk).2 rfl
 have hld:=fun w' (k:Nb w w') (hh:n.has=true)=>(h3.1 hh).nb k
 have hcxn:=fun w' (k:Nb w w')=>hcx.up k.size
 by_cases p2:n.ph=2
 ·obtain⟨g1,g2,g3⟩:=hO.p2 p2
  unfold z0W at h4
  rw[if_pos (.inl p2)]at h4
  rw[Nd.cnt0 (by omega)]at h2
  have hfr:=(hO.fr g1).1
  refine(z0V 116 2 (fun _=>by kernel_rfl) (hcf _ _ Tryz.func116 (by rfl) (by decide +kernel)) R n (n.step b).1 (n.step b).2 n.c ld rw ld GL GM b w h2 (by rw[p2];rfl) hb hcx (fun w' k => ?_)).mono fin
  rw[zlv p2]
  exact z43 R n ld rw GL GM b w' (h2.nb k) (hld w' k g1) hRL (fun k hk=>(h6 k hk).2.2) (z03 h4 (Kp.ofNb (F:=fun _=>False) k) (fun _ _ h=>h)) hRM p2 g1 hfr g2 hO.fa hb (by rw[g3,List.length_take];have:=hfr.raw_len.2;omega) (hB.below k) (hcxn w' k)
 ·by_cases p3:n.ph=3
  ·unfold z0W at h4
   rw[if_pos (.inr p3)]at h4
   refine(z0V 117 3 (fun _=>by kernel_rfl) (hcf _ _ Tryz.func117 (by rfl) (by decide +kernel)) R n (n.step b).1 (n.step b).2 n.count ld rw ld GL GM b w h2 (by rw[p3];rfl) hb hcx (fun w' k => ?_)).mono fin
   rw[zlE p3]
   exact z2C R n n.count ld rw GL GM b w' (h2.nb k) (z03 h4 (Kp.ofNb (F:=fun _=>False) k) (fun _ _ h=>h)) hRM p3 hO.fa hb (by have:=hx p3;omega) (hB.below k) hl (hcxn w' k)
  ·unfold z0W at h4
   rw[if_neg (by omega)]at h4
   subst h4
   rw[Nd.cnt0 p3]at h2
   have hcn:=hO.cn p2
   unfold z0T at hcn
   rcases(by omega:n.ph=0\/n.ph=1\/n.ph=4\/n.ph=5\/n.ph=6\/n.ph=7\/n.ph=8\/n.ph=9\/n.ph=10\/n.ph=11)with p | p | p | p | p | p | p | p | p | p
   ·exact(z0V 114 0 (fun _=>by kernel_rfl) (hcf _ _ Tryz.func114 (by rfl) (by decide +kernel)) R n _ _ n.c ld _ ld GL GM b w h2 (by rw[p];rfl) hb hcx (fun w' k=>z8W R n ld GL GM b w' (h2.nb k) hl (hcxn w' k) p (by omega))).mono fin
   ·exact(z0V 115 1 (fun _=>by kernel_rfl) (hcf _ _ Tryz.func115 (by rfl) (by decide +kernel)) R n _ _ n.c ld _ ld GL GM b w h2 (by rw[p];rfl) hb hcx (fun w' k=>z7M R n ld GL GM b w' (h2.nb k) (fun hh=>⟨hld w' k hh,(hO.fr hh).1⟩) h3.2 hRL (hcxn w' k) p hO.fa hb (hB.below k))).mono fin
   ·exact(z0V 118 4 (fun _=>by kernel_rfl) (hcf _ _ Tryz.func118 (by rfl) (by decide +kernel)) R n _ _ n.c ld _ ld GL GM b w h2 (by rw[p];rfl) hb hcx (fun w' k=>z8Y R n ld GL GM b w' (h2.nb k) hl (hcxn w' k) p)).mono fin
   ·exact(z0V 119 5 (fun _=>by kernel_rfl) (hcf _ _ Tryz.func119 (by rfl) (by decide +kernel)) R n _ _ n.c ld _ ld GL GM b w h2 (by rw[p];rfl) hb hcx (fun w' k=>z4q R n ld GL GM b w' (h2.nb k) hl (hcxn w' k) (.inl p) (by omega))).mono fin
   ·exact(z0V 119 6 (fun _=>by kernel_rfl) (hcf _ _ Tryz.func119 (by rfl) (by decide +kernel)) R n _ _ n.c ld _ ld GL GM b w h2 (by rw[p];rfl) hb hcx (fun w' k=>z4q R n ld GL GM b w' (h2.nb k) hl (hcxn w' k) (.inr p) (by omega))).mono fin
   ·exact(z0V 120 7 (fun _=>by kernel_rfl) (hcf _ _ Tryz.func120 (by rfl) (by decide +kernel)) R n _ _ n.c ld _ ld GL GM b w h2 (by rw[p];rfl) hb hcx (fun w' k=>z7j R n ld GL GM b w' (h2.nb k) hl (hcxn w' k) p (by omega))).mono fin
   ·exact(z0V 121 8 (fun _=>by kernel_rfl) (hcf _ _ Tryz.func121 (by rfl) (by decide +kernel)) R n _ _ n.c ld _ ld GL GM b w h2 (by rw[p];rfl) hb hcx (fun w' k=>z7A R n ld GL GM b w' (h2.nb k) hl (hcxn w' k) p (by omega) hb hO.fa (hB.below k))).mono fin
   ·exact(z0V 122 9 (fun _=>by kernel_rfl) (hcf _ _ Tryz.func122 (by rfl) (by decide +kernel)) R n _ _ n.c ld _ ld GL GM b w h2 (by rw[p];rfl) hb hcx (fun w' k=>z5H R n ld GL GM b w' (h2.nb k) hl (hcxn w' k) p (by omega) hO.fa (hB.below k))).mono fin
   ·exact(z0V 123 10 (fun _=>by kernel_rfl) (hcf _ _ Tryz.func123 (by rfl) (by decide +kernel)) R n _ _ n.c ld _ ld GL GM b w h2 (by rw[p];rfl) hb hcx (fun w' k=>z9i R n ld GL GM b w' (h2.nb k) hl (hcxn w' k) p)).mono fin
   ·exact(z0V 124 11 (fun _=>by kernel_rfl) (hcf _ _ Tryz.func124 (by rfl) (by decide +kernel)) R n _ _ n.c ld _ ld GL GM b w h2 (by rw[p];rfl) hb hcx (fun w' k=>z5M R n ld GL GM b w' (h2.nb k) hl (hcxn w' k) p (by omega) hO.fa)).mono fin
theorem zed(v:Value)(n:Nd)(F:Nat->Prop)(w:World)(h:z0N w v n F)(hO:n.Ok)(hB:z0i w):Calls Tryz.prog 33 #[v] w fun e w'=>e = .returned (.int .u8 (n.out:Nat))/\Nb w w':=by
 obtain⟨R,ld,rw,GL,GM,rfl,h2,h3,h4,h5,h6,h7,h8⟩:=h
 by_cases p2:n.ph=2
 ·obtain⟨g1,g2,g3⟩:=hO.p2 p2
  rw[Nd.cnt0 (by omega)]at h2
  have hfr:=(hO.fr g1).1
  have e:n.out=(wF n.f n.l).getD n.c 0:=by unfold Nd.out;rw[if_neg (by omega),if_pos p2]
  rw[e]
  exact z4G 93 2 (fun _=>by kernel_rfl) (hcf _ _ Tryz.func93 (by rfl) (by decide +kernel)) R n n.c _ ld rw w h2 (by rw[p2];rfl) (fun w' k=>z2O R n n.c ld rw GL w' (h2.nb k) ((h3.1 g1).nb k) (by have:=hfr.len.1;omega) (by have:=hfr.len.1;have:=hfr.raw_len.2;omega))
 ·by_cases p3:n.ph=3
  ·unfold z0W at h4
   rw[if_pos (.inr p3)]at h4
   have e:n.out=if n.sta.k=1 then 0 else 1:=by unfold Nd.out;rw[if_neg (by omega),if_neg (by omega),if_pos p3]
   rw[e]
   exact z4G 94 3 (fun _=>by kernel_rfl) (hcf _ _ Tryz.func94 (by rfl) (by decide +kernel)) R n n.count _ ld rw w h2 (by rw[p3];rfl) (fun w' k=>z4H R n n.count ld rw GM w' (h2.nb k) (z03 h4 (Kp.ofNb (F:=fun _=>False) k) (fun _ _ h=>h)) (hB.below k))
  ·rw[Nd.cnt0 p3]at h2
   have hcn:=hO.cn p2
   unfold z0T at hcn
   have e1:n.ph≠1->n.ph≠5->n.ph≠6->n.out=1:=fun a b c=>by unfold Nd.out;rw[if_neg a,if_neg p2,if_neg p3,if_neg b,if_neg c]
   rcases(by omega:n.ph=0\/n.ph=1\/n.ph=4\/n.ph=5\/n.ph=6\/n.ph=7\/n.ph=8\/n.ph=9\/n.ph=10\/n.ph=11)with p | p | p | p | p | p | p | p | p | p
   ·rw[e1 (by omega) (by omega) (by omega)];exact z4G 91 0 (fun _=>by kernel_rfl) (hcf _ _ Tryz.func91 (by rfl) (by decide +kernel)) R n n.c 1 ld rw w h2 (by rw[p];rfl) (fun w' _=>zY R w')
   ·rw[show n.out=if n.has then 0 else 1 by unfold Nd.out;rw[if_pos p]]
    exact z4G 92 1 (fun _=>by kernel_rfl) (hcf _ _ Tryz.func92 (by rfl) (by decide +kernel)) R n n.c _ ld rw w h2 (by rw[p];rfl) (fun w' k=>z5S R n ld rw GL w' (h2.nb k) (by omega) (fun hh=>⟨(h3.1 hh).nb k,(hO.fr hh).1⟩) h3.2)
   ·rw[e1 (by omega) (by omega) (by omega)];exact z4G 91 4 (fun _=>by kernel_rfl) (hcf _ _ Tryz.func91 (by rfl) (by decide +kernel)) R n n.c 1 ld rw w h2 (by rw[p];rfl) (fun w' _=>zY R w')
   ·rw[show n.out=if n.pas then 1 else 0 by unfold Nd.out;rw[if_neg (by omega),if_neg (by omega),if_neg (by omega),if_pos p]]
    exact z4G 95 5 (fun _=>by kernel_rfl) (hcf _ _ Tryz.func95 (by rfl) (by decide +kernel)) R n n.c _ ld rw w h2 (by rw[p];rfl) (fun w' k=>z6f R n n.c ld rw w' (h2.nb k))
   ·rw[show n.out=0 by unfold Nd.out;rw[if_neg (by omega),if_neg (by omega),if_neg (by omega),if_neg (by omega),if_pos p]]
    exact z4G 96 6 (fun _=>by kernel_rfl) (hcf _ _ Tryz.func96 (by rfl) (by decide +kernel)) R n n.c 0 ld rw w h2 (by rw[p];rfl) (fun w' _=>z3Z R w')
   ·rw[e1 (by omega) (by omega) (by omega)];exact z4G 91 7 (fun _=>by kernel_rfl) (hcf _ _ Tryz.func91 (by rfl) (by decide +kernel)) R n n.c 1 ld rw w h2 (by rw[p];rfl) (fun w' _=>zY R w')
   ·rw[e1 (by omega) (by omega) (by omega)];exact z4G 91 8 (fun _=>by kernel_rfl) (hcf _ _ Tryz.func91 (by rfl) (by decide +kernel)) R n n.c 1 ld rw w h2 (by rw[p];rfl) (fun w' _=>zY R w')
   ·rw[e1 (by omega) (by omega) (by omega)];exact z4G 91 9 (fun _=>by kernel_rfl) (hcf _ _ Tryz.func91 (by rfl) (by decide +kernel)) R n n.c 1 ld rw w h2 (by rw[p];rfl) (fun w' _=>zY R w')
   ·rw[e1 (by omega) (by omega) (by omega)];exact z4G 91 10 (fun _=>by kernel_rfl) (hcf _ _ Tryz.func91 (by rfl) (by decide +kernel)) R n n.c 1 ld rw w h2 (by rw[p];rfl) (fun w' _=>zY R w')
   ·rw[e1 (by omega) (by omega) (by omega)];exact z4G 91 11 (fun _=>by kernel_rfl) (hcf _ _ Tryz.func91 (by rfl) (by decide +kernel)) R n n.c 1 ld rw w h2 (by rw[p];rfl) (fun w' _=>zY R w')
theorem z9n(v:Value)(n:Nd)(F:Nat->Prop)(w:World)(h:z0N w v n F)(_hO:n.Ok)(_hB:z0i w):Calls Tryz.prog 23 #[v] w fun e w'=>e = .returned (stV n)/\Nb w w':=by
 obtain⟨R,ld,rw,GL,GM,rfl,h2,h3,h4,h5,h6,h7,h8⟩:=h
 exact zbL R n n.count ld rw w h2 h3.two
theorem zbV (v:Value) (n:Nd) (F:Nat->Prop) (f:Hd) (a:Option Addr) (cap:Nat) (l:List Nat) (w:World) (h:z0N w v n F) (_hO:n.Ok) (hB:z0i w) (hbs:Bs w a cap l) (_hn:a=none->cap=0) (hW:WdX f) :
    Calls Tryz.prog 30 #[v,.agg (f.cs (.slice a l.length cap))] w (zjP z0N w v (n.load f l) (.int .i64 (n.loadE f l:Nat)) F):=by
 obtain⟨R,ld,rw,GL,GM,rfl,h2,h3,h4,h5,h6,h7,h8⟩:=h
 refine(ze3 R n n.count ld rw f a cap l w h2 h3.two hB hbs hW).mono ?_
 rintro e w' ⟨rfl,q,kk⟩
 have kF:Kp F w w':=kk.mono (fun k _ hk=>hk ▸ h5)
 by_cases he:n.loadE f l=0
 ·rw[if_pos he]at q
  obtain⟨ld',G,q1,q2,q3,q4⟩:=q
  have el:n.load f l={ n with has:=true,f:=f,l:=l }:=by unfold Nd.load;rw[if_pos he]
  refine⟨fun k=>F k\/G k,rfl,?_,kF,fun k hk=>hk.imp id (q3 k)⟩
  rw[el]
  refine⟨R,ld',rw,G,GM,rfl,q1,⟨fun _=>q2,fun hh=>(by cases hh)⟩,h4.keep kk (fun k hk e=>(h7 k hk).2 e),.inl h5,fun k hk=>⟨.inr hk,fun e => ?_,fun hg => ?_⟩,fun k hk=>⟨.inl (h7 k hk).1,(h7 k hk).2⟩,fun k hk => ?_⟩
  ·have:=q3 k hk;have:=h8 R h5;omega
  ·have:=q3 k hk;have:=h8 k (h7 k hg).1;omega
  ·rcases hk with hk | hk
   ·exact Nat.lt_of_lt_of_le (h8 k hk) kk.size
   ·exact q4 k hk
 ·rw[if_neg he]at q
  have el:n.load f l=n:=by unfold Nd.load;rw[if_neg he]
  refine⟨F,rfl,?_,kF,fun k hk => .inl hk⟩
  rw[el]
  exact⟨R,ld,rw,GL,GM,rfl,q,⟨fun hh=>(h3.1 hh).keep kk (fun k hk e=>(h6 k hk).2.1 e),h3.2⟩,h4.keep kk (fun k hk e=>(h7 k hk).2 e),h5,h6,h7,fun k hk=>Nat.lt_of_lt_of_le (h8 k hk) kk.size⟩
end Go.Proofs.YtplbmlpdefpplaaGreatDoor
