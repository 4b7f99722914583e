
/- The document's Wire of layer 9: any frame on the wire. Condition: nil has no room. -/
import Derived.Test.YtplbmlpdefpplaaGreatDoorScK
import Derived.Test.YtplbmlpdefpplaaGreatDoorGqx
import Derived.Test.YtplbmlpdefpplaaGreatDoorFdS
set_option maxHeartbeats 1600000
set_option maxRecDepth 100000
namespace Go.Proofs.YtplbmlpdefpplaaGreatDoor
set_option linter.unusedVariables false
set_option linter.unusedSimpArgs false
open Go.RowKit
theorem z82 (f:Hd) (a:Option Addr) (cap:Nat) (l:List Nat) (w:World) (h:Bs w a cap l) (hW:WdX f) (hn:a=none->cap=0) (hK:f.K=2) :
    Calls Tryz.prog 12 #[.agg (f.cs (.slice a l.length cap))] w fun e w'=>z4B w (wdC f l) (z1O f l) (z25 f l) (z3w f l) e w'/\Nb w w':=by
 have hL:=h.len
 have hp:=fun w' (n:Nb w w')=>z92 f a cap l w' (h.below n) hn (hW.1)
 generalize wdC f l=Z at *
 generalize z1O f l=N at *
 generalize z25 f l=C at *
 generalize z3w f l=ER at *
 obtain⟨K,I,X,R,B,E,S,D,V,A⟩:=f
 simp only at hK
 subst hK
 simp only[Hd.cs]at hp ⊢
 have HP:=zH hp
 clear hp h hn hW
 go_enter Tryz.func12,Tryz.ntmps12
 go_wp2_with fail
 refine(HP.out _ ((Nb.rfl.al _).al _)).mono ?_
 rintro e w1 ⟨⟨a1,c1,rfl,f1⟩,n1⟩
 have m1:Nb w w1:=((Nb.rfl.al _).al _).tr n1
 have hx:=(Blk.new (w.alloc (.cells #[.int .i64 2,.int .u32 I,.bool X,.bool R,.bool B,.bool E,.bool S,.int .u8 D,.int .u8 V,.int .u32 A,.slice a l.length cap] 37)) #[.slice none 0 0,.int .i64 0,.int .i64 0] 52).nb n1
 rw[World.size_alloc]at hx
 obtain⟨d0,d1,d2⟩:=hx.c3
 obtain⟨g0,g1,g2⟩:=hx.f3
 have HB:=zH (z0n (v0 := .slice a1 Z.length c1) (v1 := .int .i64 N) (v2 := .int .i64 C) hx)
 have HW:=zH (z0P m1 (b:=w.heap.size+1) (by omega) (.slice a1 Z.length c1) (.int .i64 N) (.int .i64 C))
 have HF:=zH (show zf w _ _ _ from⟨f1.1.put3 (b:=w.heap.size+1) (fun g hg=>by have:=f1.2 g hg;simp only[World.size_alloc]at this;omega) (.slice a1 Z.length c1) (.int .i64 N) (.int .i64 C),fun g hg=>by have:=f1.2 g hg;simp only[World.size_alloc]at this;omega⟩)
 clear f1 n1 hx m1
 go_wp2
 change bodyPost _ _ _ _ _ (put3 w1 (w.heap.size+1) (.slice a1 Z.length c1) (.int .i64 N) (.int .i64 C))
 generalize put3 w1 (w.heap.size+1) (.slice a1 Z.length c1) (.int .i64 N) (.int .i64 C)=W at *
 obtain⟨e0,e1,e2⟩:=HB.out.c3
 exact bodyPost_ret (v := .tuple #[.agg #[.slice a1 Z.length c1,.int .i64 N,.int .i64 C],.int .i64 ER]) (by simp[results,Tryz.results12,go_sem,e0,e1,e2]) rfl ⟨⟨a1,c1,rfl,HF.out⟩,HW.out⟩
theorem z65 (f:Hd) (a:Option Addr) (cap:Nat) (l:List Nat) (w:World) (h:Bs w a cap l) (hW:WdX f) (hn:a=none->cap=0) (hK:f.K=3) :
    Calls Tryz.prog 12 #[.agg (f.cs (.slice a l.length cap))] w fun e w'=>z4B w (wxC f l) (z1y f l) (z29 f l) (z3A f l) e w'/\Nb w w':=by
 have hL:=h.len
 have hp:=fun w' (n:Nb w w')=>z9b f a cap l w' (h.below n) hn hW
 generalize wxC f l=Z at *
 generalize z1y f l=N at *
 generalize z29 f l=C at *
 generalize z3A f l=ER at *
 obtain⟨K,I,X,R,B,E,S,D,V,A⟩:=f
 simp only at hK
 subst hK
 simp only[Hd.cs]at hp ⊢
 have HP:=zH hp
 clear hp h hn hW
 go_enter Tryz.func12,Tryz.ntmps12
 go_wp2_with fail
 refine(HP.out _ ((Nb.rfl.al _).al _)).mono ?_
 rintro e w1 ⟨⟨a1,c1,rfl,f1⟩,n1⟩
 have m1:Nb w w1:=((Nb.rfl.al _).al _).tr n1
 have hx:=(Blk.new (w.alloc (.cells #[.int .i64 3,.int .u32 I,.bool X,.bool R,.bool B,.bool E,.bool S,.int .u8 D,.int .u8 V,.int .u32 A,.slice a l.length cap] 37)) #[.slice none 0 0,.int .i64 0,.int .i64 0] 52).nb n1
 rw[World.size_alloc]at hx
 obtain⟨d0,d1,d2⟩:=hx.c3
 obtain⟨g0,g1,g2⟩:=hx.f3
 have HB:=zH (z0n (v0 := .slice a1 Z.length c1) (v1 := .int .i64 N) (v2 := .int .i64 C) hx)
 have HW:=zH (z0P m1 (b:=w.heap.size+1) (by omega) (.slice a1 Z.length c1) (.int .i64 N) (.int .i64 C))
 have HF:=zH (show zf w _ _ _ from⟨f1.1.put3 (b:=w.heap.size+1) (fun g hg=>by have:=f1.2 g hg;simp only[World.size_alloc]at this;omega) (.slice a1 Z.length c1) (.int .i64 N) (.int .i64 C),fun g hg=>by have:=f1.2 g hg;simp only[World.size_alloc]at this;omega⟩)
 clear f1 n1 hx m1
 go_wp2
 change bodyPost _ _ _ _ _ (put3 w1 (w.heap.size+1) (.slice a1 Z.length c1) (.int .i64 N) (.int .i64 C))
 generalize put3 w1 (w.heap.size+1) (.slice a1 Z.length c1) (.int .i64 N) (.int .i64 C)=W at *
 obtain⟨e0,e1,e2⟩:=HB.out.c3
 exact bodyPost_ret (v := .tuple #[.agg #[.slice a1 Z.length c1,.int .i64 N,.int .i64 C],.int .i64 ER]) (by simp[results,Tryz.results12,go_sem,e0,e1,e2]) rfl ⟨⟨a1,c1,rfl,HF.out⟩,HW.out⟩
theorem z8G (f:Hd) (a:Option Addr) (cap:Nat) (l:List Nat) (w:World) (h:Bs w a cap l) (hW:WdX f) (hn:a=none->cap=0) (h2:¬f.K=2) (h3:¬f.K=3) :
    Calls Tryz.prog 12 #[.agg (f.cs (.slice a l.length cap))] w fun e w'=>z4B w (z0M f l) (z1S f l) (z27 f l) (okE f l) e w'/\Nb w w':=by
 have hL:=h.len
 have hp:=fun w' (n:Nb w w')=>z85 f a cap l w' (h.below n) hn hW.1
 generalize z0M f l=Z at *
 generalize z1S f l=N at *
 generalize z27 f l=C at *
 generalize okE f l=ER at *
 obtain⟨K,I,X,R,B,E,S,D,V,A⟩:=f
 simp only at h2 h3
 have d2:(K==2)=false:=by simpa using h2
 have d3:(K==3)=false:=by simpa using h3
 simp only[Hd.cs]at hp ⊢
 have HP:=zH hp
 clear hp h hn hW h2 h3
 go_enter Tryz.func12,Tryz.ntmps12
 go_wp2_with fail
 refine(HP.out _ ((Nb.rfl.al _).al _)).mono ?_
 rintro e w1 ⟨⟨a1,c1,rfl,f1⟩,n1⟩
 have m1:Nb w w1:=((Nb.rfl.al _).al _).tr n1
 have hx:=(Blk.new (w.alloc (.cells #[.int .i64 K,.int .u32 I,.bool X,.bool R,.bool B,.bool E,.bool S,.int .u8 D,.int .u8 V,.int .u32 A,.slice a l.length cap] 37)) #[.slice none 0 0,.int .i64 0,.int .i64 0] 52).nb n1
 rw[World.size_alloc]at hx
 obtain⟨d0,d1,d2'⟩:=hx.c3
 obtain⟨g0,g1,g2⟩:=hx.f3
 have HB:=zH (z0n (v0 := .slice a1 Z.length c1) (v1 := .int .i64 N) (v2 := .int .i64 C) hx)
 have HW:=zH (z0P m1 (b:=w.heap.size+1) (by omega) (.slice a1 Z.length c1) (.int .i64 N) (.int .i64 C))
 have HF:=zH (show zf w _ _ _ from⟨f1.1.put3 (b:=w.heap.size+1) (fun g hg=>by have:=f1.2 g hg;simp only[World.size_alloc]at this;omega) (.slice a1 Z.length c1) (.int .i64 N) (.int .i64 C),fun g hg=>by have:=f1.2 g hg;simp only[World.size_alloc]at this;omega⟩)
 clear f1 n1 hx m1
 go_wp2
 change bodyPost _ _ _ _ _ (put3 w1 (w.heap.size+1) (.slice a1 Z.length c1) (.int .i64 N) (.int .i64 C))
 generalize put3 w1 (w.heap.size+1) (.slice a1 Z.length c1) (.int .i64 N) (.int .i64 C)=W at *
 obtain⟨e0,e1,e2⟩:=HB.out.c3
 exact bodyPost_ret (v := .tuple #[.agg #[.slice a1 Z.length c1,.int .i64 N,.int .i64 C],.int .i64 ER]) (by simp[results,Tryz.results12,go_sem,e0,e1,e2]) rfl ⟨⟨a1,c1,rfl,HF.out⟩,HW.out⟩
theorem z8h (f:Hd) (a:Option Addr) (cap:Nat) (l:List Nat) (w:World) (h:Bs w a cap l) (hW:WdX f) (hn:a=none->cap=0) :
    Calls Tryz.prog 12 #[.agg (f.cs (.slice a l.length cap))] w fun e w'=>z4B w (wF f l) (z2J f l) (z2P f l) (erF f l) e w'/\Nb w w':=by
 unfold wF z2J z2P erF
 by_cases h2:f.K=2
 ·simp only[if_pos h2]
  exact z82 f a cap l w h hW hn h2
 by_cases h3:f.K=3
 ·simp only[if_neg h2,if_pos h3]
  exact z65 f a cap l w h hW hn h3
 simp only[if_neg h2,if_neg h3]
 exact z8G f a cap l w h hW hn h2 h3
end Go.Proofs.YtplbmlpdefpplaaGreatDoor
