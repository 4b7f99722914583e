
/- The document's Wire of layer 9: any frame on the wire. Condition: nil has no room. -/
import Derived.Test.YtipefblpppmabaaGreatDoorScK
import Derived.Test.YtipefblpppmabaaGreatDoorXlS
import Derived.Test.YtipefblpppmabaaGreatDoorFdS
import Derived.Test.YtipefblpppmabaaGreatDoorClaS
import Derived.Test.YtipefblpppmabaaGreatDoorRwC
set_option maxHeartbeats 1600000
set_option maxRecDepth 100000
namespace Go.Proofs.YtipefblpppmabaaGreatDoor
set_option linter.unusedVariables false
set_option linter.unusedSimpArgs false
open Go.RowKit
theorem Bs.put3 {w:World} {a:Option Addr} {c:Nat} {l:List Nat} (h:Bs w a c l) {b:Nat} {t:TypeId} (hb:Blk w b #[.slice none 0 0,.int .i64 0,.int .i64 0] t) (v0 v1 v2:Value):Bs (put3 w b v0 v1 v2) a c l:=by
 refine⟨h.hcap,h.hmax,h.hbyte,fun hl => ?_⟩
 obtain⟨g,o,ha,hc⟩:=h.hcells hl
 refine⟨g,o,ha,fun j hj => ?_⟩
 have h1:=hc j hj
 have hne:g≠b:=by
  rintro rfl
  rw[hb.cell (o+j)] at h1
  rcases (by omega:o+j=0\/o+j=1\/o+j=2\/3<=o+j) with e | e | e | e
  ·rw[e] at h1;simp at h1
  ·rw[e] at h1;simp at h1
  ·rw[e] at h1;simp at h1
  ·rw[Array.getElem?_eq_none (by simpa using e)] at h1
   cases h1
 have hlt:=World.block_lt_of_cell? _ _ h1
 have e:=(put3_kp w b v0 v1 v2).block g hlt hne
 rw[<- h1]
 simp only[World.cell?,e]
theorem refwire9_two (f:Hd) (a:Option Addr) (cap:Nat) (l:List Nat) (w:World) (h:Bs w a cap l) (hW:WdX f) (hn:a=none->cap=0) (hK:f.K=2) :
    Calls Tryz.prog 31 #[.agg (f.cs (.slice a l.length cap))] w fun e w'=>AnsV (wdC f l) (wArbD f l) (wAckD f l) (okDE f l) e w'/\Nb w w':=by
 have hL:=h.len
 have hp:=fun w' (n:Nb w w')=>refwire7_any f a cap l w' (h.below n) hn (hW.1)
 generalize wdC f l=Z at *
 generalize wArbD f l=N at *
 generalize wAckD f l=C at *
 generalize okDE f l=ER at *
 obtain⟨K,I,X,R,B,E,S,D,V,A⟩:=f
 simp only at hK
 subst hK
 simp only[Hd.cs] at hp ⊢
 have HP:=Lib.hid hp
 clear hp h hn hW
 go_enter Tryz.func31,Tryz.ntmps31
 go_wp2_with fail
 refine (HP.out _ ((Nb.rfl.al _).al _)).mono ?_
 rintro e w1 ⟨⟨a1,c1,rfl,f1⟩,n1⟩
 have m1:Nb w w1:=((Nb.rfl.al _).al _).tr n1
 have hx:=(Blk.new (w.alloc (.cells #[.int .i64 2,.int .u32 I,.bool X,.bool R,.bool B,.bool E,.bool S,.int .u8 D,.int .u8 V,.int .u32 A,.slice a l.length cap] 34)) #[.slice none 0 0,.int .i64 0,.int .i64 0] 60).nb n1
 rw[World.size_alloc] at hx
 obtain⟨d0,d1,d2⟩:=hx.c3
 obtain⟨g0,g1,g2⟩:=hx.f3
 have HB:=Lib.hid (put3_blk (v0 := .slice a1 Z.length c1) (v1 := .int .i64 N) (v2 := .int .i64 C) hx)
 have HW:=Lib.hid (put3_nb m1 (b:=w.heap.size+1) (by omega) (.slice a1 Z.length c1) (.int .i64 N) (.int .i64 C))
 have HF:=Lib.hid (Bs.put3 f1 hx (.slice a1 Z.length c1) (.int .i64 N) (.int .i64 C))
 clear f1 n1 hx m1
 go_wp2
 change bodyPost _ _ _ _ _ (put3 w1 (w.heap.size+1) (.slice a1 Z.length c1) (.int .i64 N) (.int .i64 C))
 generalize put3 w1 (w.heap.size+1) (.slice a1 Z.length c1) (.int .i64 N) (.int .i64 C)=W at *
 obtain⟨e0,e1,e2⟩:=HB.out.c3
 exact bodyPost_ret (v := .tuple #[.agg #[.slice a1 Z.length c1,.int .i64 N,.int .i64 C],.int .i64 ER]) (by simp[results,Tryz.results31,go_sem,e0,e1,e2]) rfl ⟨⟨a1,c1,rfl,HF.out⟩,HW.out⟩
theorem refwire9_three (f:Hd) (a:Option Addr) (cap:Nat) (l:List Nat) (w:World) (h:Bs w a cap l) (hW:WdX f) (hn:a=none->cap=0) (hK:f.K=3) :
    Calls Tryz.prog 31 #[.agg (f.cs (.slice a l.length cap))] w fun e w'=>AnsV (wxC f l) (wArbX f l) (wAckX f l) (okXE f l) e w'/\Nb w w':=by
 have hL:=h.len
 have hp:=fun w' (n:Nb w w')=>refwire8_any f a cap l w' (h.below n) hn hW
 generalize wxC f l=Z at *
 generalize wArbX f l=N at *
 generalize wAckX f l=C at *
 generalize okXE f l=ER at *
 obtain⟨K,I,X,R,B,E,S,D,V,A⟩:=f
 simp only at hK
 subst hK
 simp only[Hd.cs] at hp ⊢
 have HP:=Lib.hid hp
 clear hp h hn hW
 go_enter Tryz.func31,Tryz.ntmps31
 go_wp2_with fail
 refine (HP.out _ ((Nb.rfl.al _).al _)).mono ?_
 rintro e w1 ⟨⟨a1,c1,rfl,f1⟩,n1⟩
 have m1:Nb w w1:=((Nb.rfl.al _).al _).tr n1
 have hx:=(Blk.new (w.alloc (.cells #[.int .i64 3,.int .u32 I,.bool X,.bool R,.bool B,.bool E,.bool S,.int .u8 D,.int .u8 V,.int .u32 A,.slice a l.length cap] 34)) #[.slice none 0 0,.int .i64 0,.int .i64 0] 60).nb n1
 rw[World.size_alloc] at hx
 obtain⟨d0,d1,d2⟩:=hx.c3
 obtain⟨g0,g1,g2⟩:=hx.f3
 have HB:=Lib.hid (put3_blk (v0 := .slice a1 Z.length c1) (v1 := .int .i64 N) (v2 := .int .i64 C) hx)
 have HW:=Lib.hid (put3_nb m1 (b:=w.heap.size+1) (by omega) (.slice a1 Z.length c1) (.int .i64 N) (.int .i64 C))
 have HF:=Lib.hid (Bs.put3 f1 hx (.slice a1 Z.length c1) (.int .i64 N) (.int .i64 C))
 clear f1 n1 hx m1
 go_wp2
 change bodyPost _ _ _ _ _ (put3 w1 (w.heap.size+1) (.slice a1 Z.length c1) (.int .i64 N) (.int .i64 C))
 generalize put3 w1 (w.heap.size+1) (.slice a1 Z.length c1) (.int .i64 N) (.int .i64 C)=W at *
 obtain⟨e0,e1,e2⟩:=HB.out.c3
 exact bodyPost_ret (v := .tuple #[.agg #[.slice a1 Z.length c1,.int .i64 N,.int .i64 C],.int .i64 ER]) (by simp[results,Tryz.results31,go_sem,e0,e1,e2]) rfl ⟨⟨a1,c1,rfl,HF.out⟩,HW.out⟩
theorem refwire9_one (f:Hd) (a:Option Addr) (cap:Nat) (l:List Nat) (w:World) (h:Bs w a cap l) (hW:WdX f) (hn:a=none->cap=0) (h2:¬f.K=2) (h3:¬f.K=3) :
    Calls Tryz.prog 31 #[.agg (f.cs (.slice a l.length cap))] w fun e w'=>AnsV (wireC f l) (wArbC f l) (wAckC f l) (okE f l) e w'/\Nb w w':=by
 have hL:=h.len
 have hp:=fun w' (n:Nb w w')=>refwire6_any f a cap l w' (h.below n) hn hW.1
 generalize wireC f l=Z at *
 generalize wArbC f l=N at *
 generalize wAckC f l=C at *
 generalize okE f l=ER at *
 obtain⟨K,I,X,R,B,E,S,D,V,A⟩:=f
 simp only at h2 h3
 have d2:(K==2)=false:=by simpa using h2
 have d3:(K==3)=false:=by simpa using h3
 simp only[Hd.cs] at hp ⊢
 have HP:=Lib.hid hp
 clear hp h hn hW h2 h3
 go_enter Tryz.func31,Tryz.ntmps31
 go_wp2_with fail
 refine (HP.out _ ((Nb.rfl.al _).al _)).mono ?_
 rintro e w1 ⟨⟨a1,c1,rfl,f1⟩,n1⟩
 have m1:Nb w w1:=((Nb.rfl.al _).al _).tr n1
 have hx:=(Blk.new (w.alloc (.cells #[.int .i64 K,.int .u32 I,.bool X,.bool R,.bool B,.bool E,.bool S,.int .u8 D,.int .u8 V,.int .u32 A,.slice a l.length cap] 34)) #[.slice none 0 0,.int .i64 0,.int .i64 0] 60).nb n1
 rw[World.size_alloc] at hx
 obtain⟨d0,d1,d2'⟩:=hx.c3
 obtain⟨g0,g1,g2⟩:=hx.f3
 have HB:=Lib.hid (put3_blk (v0 := .slice a1 Z.length c1) (v1 := .int .i64 N) (v2 := .int .i64 C) hx)
 have HW:=Lib.hid (put3_nb m1 (b:=w.heap.size+1) (by omega) (.slice a1 Z.length c1) (.int .i64 N) (.int .i64 C))
 have HF:=Lib.hid (Bs.put3 f1 hx (.slice a1 Z.length c1) (.int .i64 N) (.int .i64 C))
 clear f1 n1 hx m1
 go_wp2
 change bodyPost _ _ _ _ _ (put3 w1 (w.heap.size+1) (.slice a1 Z.length c1) (.int .i64 N) (.int .i64 C))
 generalize put3 w1 (w.heap.size+1) (.slice a1 Z.length c1) (.int .i64 N) (.int .i64 C)=W at *
 obtain⟨e0,e1,e2⟩:=HB.out.c3
 exact bodyPost_ret (v := .tuple #[.agg #[.slice a1 Z.length c1,.int .i64 N,.int .i64 C],.int .i64 ER]) (by simp[results,Tryz.results31,go_sem,e0,e1,e2]) rfl ⟨⟨a1,c1,rfl,HF.out⟩,HW.out⟩
theorem refwire9_any (f:Hd) (a:Option Addr) (cap:Nat) (l:List Nat) (w:World) (h:Bs w a cap l) (hW:WdX f) (hn:a=none->cap=0) :
    Calls Tryz.prog 31 #[.agg (f.cs (.slice a l.length cap))] w fun e w'=>AnsV (wF f l) (arbF f l) (ackF f l) (erF f l) e w'/\Nb w w':=by
 unfold wF arbF ackF erF
 by_cases h2:f.K=2
 ·simp only[if_pos h2]
  exact refwire9_two f a cap l w h hW hn h2
 by_cases h3:f.K=3
 ·simp only[if_neg h2,if_pos h3]
  exact refwire9_three f a cap l w h hW hn h3
 simp only[if_neg h2,if_neg h3]
 exact refwire9_one f a cap l w h hW hn h2 h3
end Go.Proofs.YtipefblpppmabaaGreatDoor
