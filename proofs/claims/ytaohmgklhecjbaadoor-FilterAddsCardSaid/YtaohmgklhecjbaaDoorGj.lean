/- Contracts of identifiers and told. No conditions. Contract of frame.Check, and when a frame may be. Condition: the table of longer sizes holds what the program's text lays there. Contract of the document's Check. No conditions. Contract of the document Check, a Classic frame. No conditions. -/
import Derived.Test.YtaohmgklhecjbaaDoorFrmE
import Derived.RegionTactic
import Derived.Test.YtaohmgklhecjbaaDoorGf
import Derived.Deep.RegionHeld3
set_option maxHeartbeats 8000000
set_option maxRecDepth 100000
namespace Go.Proofs.YtaohmgklhecjbaaDoor
set_option linter.unusedVariables false
set_option linter.unusedSimpArgs false
open Go.RowKit
def toldH (f:Hd):Hd :=
 { K:=f.K,I:=f.I,X:=if f.K=1 then f.X else false,R:=if f.K=1 then f.R else false,B:=if f.K=2 then f.B else false,E:=if f.K=2 then f.E else false,
   S:=if f.K=3 then f.S else false,D:=if f.K=3 then f.D else 0,V:=if f.K=3 then f.V else 0,A:=if f.K=3 then f.A else 0 }
def idsF (f:Hd):Nat:=if f.X then 536870912 else 2048
theorem ids_any (f:Hd) (v:Value) (w:World) :
    Calls Tryd.prog 31 #[.agg (f.cs v)] w fun e w'=>e = .returned (.int .u32 (idsF f:Nat))/\Nb w w':=by
 obtain⟨K,I,X,R,B,E,S,D,V,A⟩:=f
 simp only[Hd.cs,idsF]
 cases X
 ·go_enter Tryd.func31,Tryd.ntmps31
  go_wp2
  go_ret
  exact⟨rfl,Nb.rfl.al _⟩
 ·go_enter Tryd.func31,Tryd.ntmps31
  go_wp2
  go_ret
  exact⟨rfl,Nb.rfl.al _⟩
def toldV (f:Hd) (v:Value):Value:=if f.K=1/\f.R=true then .slice none 0 0 else v
theorem told_rtr (I:Int) (X B E S:Bool) (D V A:Int) (a:Option Addr) (n cap:Nat) (w:World) :
    Calls Tryd.prog 33 #[.agg (Hd.cs ⟨1,I,X,true,B,E,S,D,V,A⟩ (.slice a n cap))] w fun e w'=>e = .returned (.agg (Hd.cs ⟨1,I,X,true,false,false,false,0,0,0⟩ (.slice none 0 0)))/\Nb w w':=by
 simp only[Hd.cs]
 go_enter Tryd.func33,Tryd.ntmps33
 go_wp2
 go_region
 go_wp2
 refine bodyPost_ret (v := .agg (Hd.cs ⟨1,I,X,true,false,false,false,0,0,0⟩ (.slice none 0 0))) (by simp[results,Tryd.results33,go_sem,Hd.cs]) rfl ⟨rfl,?_⟩
 first
  | exact ((Nb.rfl.al _).al _).al _
  | exact Nb.tr (((Nb.rfl.al _).al _).al _) (Below.drew (Below.refl _ _))
theorem told_cl (I:Int) (X B E S:Bool) (D V A:Int) (a:Option Addr) (n cap:Nat) (w:World) :
    Calls Tryd.prog 33 #[.agg (Hd.cs ⟨1,I,X,false,B,E,S,D,V,A⟩ (.slice a n cap))] w fun e w'=>e = .returned (.agg (Hd.cs ⟨1,I,X,false,false,false,false,0,0,0⟩ (.slice a n cap)))/\Nb w w':=by
 simp only[Hd.cs]
 go_enter Tryd.func33,Tryd.ntmps33
 go_wp2
 go_region
 go_wp2
 refine bodyPost_ret (v := .agg (Hd.cs ⟨1,I,X,false,false,false,false,0,0,0⟩ (.slice a n cap))) (by simp[results,Tryd.results33,go_sem,Hd.cs]) rfl ⟨rfl,?_⟩
 first
  | exact ((Nb.rfl.al _).al _).al _
  | exact Nb.tr (((Nb.rfl.al _).al _).al _) (Below.drew (Below.refl _ _))
theorem told_fd (I:Int) (X R B E S:Bool) (D V A:Int) (a:Option Addr) (n cap:Nat) (w:World) :
    Calls Tryd.prog 33 #[.agg (Hd.cs ⟨2,I,X,R,B,E,S,D,V,A⟩ (.slice a n cap))] w fun e w'=>e = .returned (.agg (Hd.cs ⟨2,I,false,false,B,E,false,0,0,0⟩ (.slice a n cap)))/\Nb w w':=by
 simp only[Hd.cs]
 go_enter Tryd.func33,Tryd.ntmps33
 go_wp2
 go_region
 go_wp2
 refine bodyPost_ret (v := .agg (Hd.cs ⟨2,I,false,false,B,E,false,0,0,0⟩ (.slice a n cap))) (by simp[results,Tryd.results33,go_sem,Hd.cs]) rfl ⟨rfl,?_⟩
 first
  | exact ((Nb.rfl.al _).al _).al _
  | exact Nb.tr (((Nb.rfl.al _).al _).al _) (Below.drew (Below.refl _ _))
theorem told_xl (I:Int) (X R B E S:Bool) (D V A:Int) (a:Option Addr) (n cap:Nat) (w:World) :
    Calls Tryd.prog 33 #[.agg (Hd.cs ⟨3,I,X,R,B,E,S,D,V,A⟩ (.slice a n cap))] w fun e w'=>e = .returned (.agg (Hd.cs ⟨3,I,false,false,false,false,S,D,V,A⟩ (.slice a n cap)))/\Nb w w':=by
 simp only[Hd.cs]
 go_enter Tryd.func33,Tryd.ntmps33
 go_wp2
 go_region
 go_wp2
 refine bodyPost_ret (v := .agg (Hd.cs ⟨3,I,false,false,false,false,S,D,V,A⟩ (.slice a n cap))) (by simp[results,Tryd.results33,go_sem,Hd.cs]) rfl ⟨rfl,?_⟩
 first
  | exact ((Nb.rfl.al _).al _).al _
  | exact Nb.tr (((Nb.rfl.al _).al _).al _) (Below.drew (Below.refl _ _))
theorem told_no (K I:Int) (X R B E S:Bool) (D V A:Int) (a:Option Addr) (n cap:Nat) (w:World) (d1:(K==1)=false) (d2:(K==2)=false) (d3:(K==3)=false) :
    Calls Tryd.prog 33 #[.agg (Hd.cs ⟨K,I,X,R,B,E,S,D,V,A⟩ (.slice a n cap))] w fun e w'=>e = .returned (.agg (Hd.cs ⟨K,I,false,false,false,false,false,0,0,0⟩ (.slice a n cap)))/\Nb w w':=by
 simp only[Hd.cs]
 go_enter Tryd.func33,Tryd.ntmps33
 go_wp2
 refine bodyPost_ret (v := .agg (Hd.cs ⟨K,I,false,false,false,false,false,0,0,0⟩ (.slice a n cap))) (by simp[results,Tryd.results33,go_sem,Hd.cs]) rfl ⟨rfl,?_⟩
 first
  | exact ((Nb.rfl.al _).al _).al _
  | exact Nb.tr (((Nb.rfl.al _).al _).al _) (Below.drew (Below.refl _ _))
theorem told_any (f:Hd) (a:Option Addr) (n cap:Nat) (w:World) :
    Calls Tryd.prog 33 #[.agg (f.cs (.slice a n cap))] w fun e w'=>e = .returned (.agg ((toldH f).cs (toldV f (.slice a n cap))))/\Nb w w':=by
 obtain⟨K,I,X,R,B,E,S,D,V,A⟩:=f
 rcases (by omega:(K=1\/K=2\/K=3)\/(K≠1/\K≠2/\K≠3)) with (rfl | rfl | rfl) | ⟨h1,h2,h3⟩
 ·cases R
  ·exact told_cl I X B E S D V A a n cap w
  ·exact told_rtr I X B E S D V A a n cap w
 ·exact told_fd I X R B E S D V A a n cap w
 ·exact told_xl I X R B E S D V A a n cap w
 ·have:=told_no K I X R B E S D V A a n cap w (by simpa using h1) (by simpa using h2) (by simpa using h3)
  simpa only[toldH,toldV,h1,h2,h3,if_false,false_and] using this
end Go.Proofs.YtaohmgklhecjbaaDoor
namespace Go.Proofs.YtaohmgklhecjbaaDoor
set_option linter.unusedVariables false
set_option linter.unusedSimpArgs false
open Go.RowKit
def toldL (f:Hd) (l:List Nat):List Nat:=if f.K=1/\f.R=true then [] else l
def toldA (f:Hd) (a:Option Addr):Option Addr:=if f.K=1/\f.R=true then none else a
def toldC (f:Hd) (c:Nat):Nat:=if f.K=1/\f.R=true then 0 else c
theorem toldV_eq (f:Hd) (a:Option Addr) (l:List Nat) (cap:Nat):toldV f (.slice a l.length cap) = .slice (toldA f a) (toldL f l).length (toldC f cap):=by
 unfold toldV toldA toldL toldC
 split<;>rfl
theorem toldV_bs {f:Hd} {w:World} {a:Option Addr} {l:List Nat} {cap:Nat} (h:Bs w a cap l):Bs w (toldA f a) (toldC f cap) (toldL f l):=by
 unfold toldA toldL toldC
 split
 ·exact Bs.nil w
 ·exact h
def okF (f:Hd) (l:List Nat):Bool:=hasF f.K (l.length:Int)&&(decide (f.I < (idsF f:Int))&&sameF f (toldH f) l (toldL f l))
def checkN (f:Hd) (l:List Nat):Nat:=if okF f l then 0 else 2
theorem Blk.c11 {w:World} {R:Nat} {u0 u1 u2 u3 u4 u5 u6 u7 u8 u9 u10:Value} {t:TypeId} (h:Blk w R #[u0,u1,u2,u3,u4,u5,u6,u7,u8,u9,u10] t):w.cell? ⟨R,0,none⟩=some u0/\w.cell? ⟨R,1,none⟩=some u1/\w.cell? ⟨R,2,none⟩=some u2/\w.cell? ⟨R,3,none⟩=some u3/\w.cell? ⟨R,4,none⟩=some u4/\w.cell? ⟨R,5,none⟩=some u5/\w.cell? ⟨R,6,none⟩=some u6/\w.cell? ⟨R,7,none⟩=some u7/\w.cell? ⟨R,8,none⟩=some u8/\w.cell? ⟨R,9,none⟩=some u9/\w.cell? ⟨R,10,none⟩=some u10:=⟨h.cell 0,h.cell 1,h.cell 2,h.cell 3,h.cell 4,h.cell 5,h.cell 6,h.cell 7,h.cell 8,h.cell 9,h.cell 10⟩
theorem Blk.f11 {w:World} {R:Nat} {u0 u1 u2 u3 u4 u5 u6 u7 u8 u9 u10:Value} {t:TypeId} (h:Blk w R #[u0,u1,u2,u3,u4,u5,u6,u7,u8,u9,u10] t):w.frozen? ⟨R,0,none⟩=false/\w.frozen? ⟨R,1,none⟩=false/\w.frozen? ⟨R,2,none⟩=false/\w.frozen? ⟨R,3,none⟩=false/\w.frozen? ⟨R,4,none⟩=false/\w.frozen? ⟨R,5,none⟩=false/\w.frozen? ⟨R,6,none⟩=false/\w.frozen? ⟨R,7,none⟩=false/\w.frozen? ⟨R,8,none⟩=false/\w.frozen? ⟨R,9,none⟩=false/\w.frozen? ⟨R,10,none⟩=false:=⟨h.frozen 0,h.frozen 1,h.frozen 2,h.frozen 3,h.frozen 4,h.frozen 5,h.frozen 6,h.frozen 7,h.frozen 8,h.frozen 9,h.frozen 10⟩
theorem check5_any (f:Hd) (a:Option Addr) (cap:Nat) (l:List Nat) (w:World) (h:Bs w a cap l) (hl:Longer w) :
    Calls Tryd.prog 23 #[.agg (f.cs (.slice a l.length cap))] w fun e w'=>e = .returned (.int .i64 (checkN f l:Nat))/\Nb w w':=by
 have hL:=h.len
 have hCode:=Lib.hid (code_any f.K (l.length:Int) _ (hl.below (Nb.rfl.al (.cells (f.cs (.slice a l.length cap)) 28))))
 have hIds:=Lib.hid (ids_any f (.slice a l.length cap))
 have hTold:=Lib.hid (told_any f a l.length cap)
 have hSame:=Lib.hid (fun w' (hn:Nb w w')=>same5_any f (toldH f) a (toldA f a) cap (toldC f cap) l (toldL f l) w' (h.below hn) (toldV_bs (h.below hn)))
 simp only[<- toldV_eq] at hSame
 cases hh:hasF f.K (l.length:Int) with
 | false =>
   rw[show codeE f.K (l.length:Int)=2 by simp[codeE,hh],show codeV f.K (l.length:Int)=0 by simp[codeV,hh]] at hCode
   rw[show checkN f l=2 by simp[checkN,okF,hh]]
   clear hh h hl hIds hTold hSame
   obtain⟨K,I,X,R,B,E,S,D,V,A⟩:=f
   simp only[Hd.cs] at hCode ⊢
   go_enter Tryd.func23,Tryd.ntmps23
   go_wp2_with fail
   refine hCode.out.mono ?_
   rintro e w1 ⟨rfl,n1⟩
   obtain⟨c0,c1,c2,c3,c4,c5,c6,c7,c8,c9,c10⟩:=((Blk.new w _ _).nb n1).c11
   go_wp2_with fail
   go_quiet (fail)
   go_wp2
   go_ret
   exact⟨rfl,((Nb.rfl.al _).tr n1).tr (Nb.drewN _ _)⟩
 | true =>
   rw[show codeE f.K (l.length:Int)=0 by simp[codeE,hh]] at hCode
   by_cases hi:f.I < (idsF f:Int)
   ·have hi2:decide ((idsF f:Int)<=f.I)=false:=by simpa using hi
    rw[show checkN f l=if sameF f (toldH f) l (toldL f l) then 0 else 2 by simp[checkN,okF,hh,hi]]
    clear hh h hl hi
    generalize codeV f.K (l.length:Int)=cv at *
    generalize (Value.agg ((toldH f).cs (toldV f (.slice a l.length cap))))=tv at *
    generalize sameF f (toldH f) l (toldL f l)=sb at *
    obtain⟨K,I,X,R,B,E,S,D,V,A⟩:=f
    generalize idsF _=idn at *
    simp only[Hd.cs] at hCode hIds hTold hSame hi2 ⊢
    go_enter Tryd.func23,Tryd.ntmps23
    go_wp2_with fail
    refine hCode.out.mono ?_
    rintro e w1 ⟨rfl,n1⟩
    have HB:=Lib.hid ((Blk.new w #[.int .i64 K,.int .u32 I,.bool X,.bool R,.bool B,.bool E,.bool S,.int .u8 D,.int .u8 V,.int .u32 A,.slice a l.length cap] 28).nb n1)
    have m1:=Lib.hid ((Nb.rfl.al _).tr n1:Nb w w1)
    obtain⟨c0,c1,c2,c3,c4,c5,c6,c7,c8,c9,c10⟩:=HB.out.c11
    clear n1
    go_wp2_with fail
    go_region_held3 (fun w'=>w'.cell? ⟨w.heap.size,0,none⟩=some (.int .i64 K)/\w'.cell? ⟨w.heap.size,1,none⟩=some (.int .u32 I)/\w'.cell? ⟨w.heap.size,2,none⟩=some (.bool X)/\w'.cell? ⟨w.heap.size,3,none⟩=some (.bool R)/\w'.cell? ⟨w.heap.size,4,none⟩=some (.bool B)/\w'.cell? ⟨w.heap.size,5,none⟩=some (.bool E)/\w'.cell? ⟨w.heap.size,6,none⟩=some (.bool S)/\w'.cell? ⟨w.heap.size,7,none⟩=some (.int .u8 D)/\w'.cell? ⟨w.heap.size,8,none⟩=some (.int .u8 V)/\w'.cell? ⟨w.heap.size,9,none⟩=some (.int .u32 A)/\w'.cell? ⟨w.heap.size,10,none⟩=some (.slice a l.length cap)) (first | go_keep | exact (HB.out.nb (Nb.tr (Below.drew (Below.refl _ _):Nb w1 w1.drew) n5)).c11 | exact (HB.out.nb ((Nb.tr (Below.drew (Below.refl _ _):Nb w1 w1.drew) n5).tr n6)).c11 | exact (HB.out.nb (((Nb.tr (Below.drew (Below.refl _ _):Nb w1 w1.drew) n5).tr n6).tr n7)).c11)
     (first
      | (go_at_call 31;refine (hIds.out _).mono ?_;rintro e w5 ⟨rfl,n5⟩)
      | (go_at_call 33;refine (hTold.out _).mono ?_;rintro e w6 ⟨rfl,n6⟩)
      | (go_at_call 32;refine (hSame.out _ (((m1.out.tr (Below.drew (Below.refl _ _):Nb w1 w1.drew)).tr n5).tr n6)).mono ?_;rintro e w7 ⟨rfl,n7⟩))
    cases sb
    all_goals go_wp2
    all_goals go_ret
    all_goals exact⟨rfl,(((m1.out.tr (Below.drew (Below.refl _ _):Nb w1 w1.drew)).tr n5).tr n6).tr n7⟩
   ·have hi2:decide ((idsF f:Int)<=f.I)=true:=by simpa using hi
    rw[show checkN f l=2 by simp[checkN,okF,hh,hi]]
    clear hh h hl hi hTold hSame
    generalize codeV f.K (l.length:Int)=cv at *
    obtain⟨K,I,X,R,B,E,S,D,V,A⟩:=f
    generalize idsF _=idn at *
    simp only[Hd.cs] at hCode hIds hi2 ⊢
    go_enter Tryd.func23,Tryd.ntmps23
    go_wp2_with fail
    refine hCode.out.mono ?_
    rintro e w1 ⟨rfl,n1⟩
    have HB:=Lib.hid ((Blk.new w #[.int .i64 K,.int .u32 I,.bool X,.bool R,.bool B,.bool E,.bool S,.int .u8 D,.int .u8 V,.int .u32 A,.slice a l.length cap] 28).nb n1)
    have m1:=Lib.hid ((Nb.rfl.al _).tr n1:Nb w w1)
    obtain⟨c0,c1,c2,c3,c4,c5,c6,c7,c8,c9,c10⟩:=HB.out.c11
    clear n1
    go_wp2_with fail
    go_region_with ((go_at_call 31;refine (hIds.out _).mono ?_;rintro e w5 ⟨rfl,n5⟩;obtain⟨c0,c1,c2,c3,c4,c5,c6,c7,c8,c9,c10⟩:=(HB.out.nb (Nb.tr (Below.drew (Below.refl _ _):Nb w1 w1.drew) n5)).c11))
    all_goals go_wp2
    all_goals go_ret
    all_goals exact⟨rfl,(m1.out.tr (Below.drew (Below.refl _ _):Nb w1 w1.drew)).tr n5⟩
end Go.Proofs.YtaohmgklhecjbaaDoor
namespace Go.Proofs.YtaohmgklhecjbaaDoor
set_option linter.unusedVariables false
set_option linter.unusedSimpArgs false
open Go.RowKit
def okCl (I:Int) (X R B E S:Bool) (D V A:Int) (z:Bool):Bool:=(!R||z)&&((X||decide (I < 2048))&&(decide (I < 536870912)&&(!B&&(!E&&(!S&&(D==0&&(V==0&&A==0)))))))
def okFd (I:Int) (X R S:Bool) (D V A:Int):Bool:=decide (I < 2048)&&(!X&&(!R&&(!S&&(D==0&&(V==0&&A==0)))))
def okXl (I:Int) (X R B E:Bool):Bool:=decide (I < 2048)&&(!X&&(!R&&(!B && !E)))
theorem okF_cl (I:Int) (X R B E S:Bool) (D V A:Int) (l:List Nat):okF ⟨1,I,X,R,B,E,S,D,V,A⟩ l=(hasF 1 (l.length:Int)&&okCl I X R B E S D V A (decide (l.length=0))):=by
 have hl:(l.length=0)=(l=[]):=propext List.length_eq_zero_iff
 cases X<;>cases R<;>by_cases hz:l=[]<;>by_cases h1:I < 2048<;>by_cases h2:I < 536870912<;>first
  | (exfalso;omega)
  | simp[okF,okCl,idsF,sameF,Hd.eqb,toldH,toldL,hl,hz,h1,h2]
theorem okF_fd (I:Int) (X R B E S:Bool) (D V A:Int) (l:List Nat):okF ⟨2,I,X,R,B,E,S,D,V,A⟩ l=(hasF 2 (l.length:Int)&&okFd I X R S D V A):=by
 cases X<;>simp[okF,okFd,idsF,sameF,Hd.eqb,toldH,toldL]
theorem okF_xl (I:Int) (X R B E S:Bool) (D V A:Int) (l:List Nat):okF ⟨3,I,X,R,B,E,S,D,V,A⟩ l=(hasF 3 (l.length:Int)&&okXl I X R B E):=by
 cases X<;>simp[okF,okXl,idsF,sameF,Hd.eqb,toldH,toldL]
theorem hasF_kind {k s:Int} (h:hasF k s=true):k=1\/k=2\/k=3:=by
 rcases kind_cases k with h1 | ⟨h1,h2,h3⟩
 ·exact h1
 ·have:=((hasF_iff k s).1 h).1
  simp[cntF,h1,h2,h3] at this
theorem Nb.s1 {w w1:World} (h:Nb w w1) {b:Nat} (hb:w.heap.size<=b) (i:Nat) (u:Value):Nb w (w1.setCell ⟨b,i,none⟩ u):=h.st hb u
theorem Nb.s2 {w w1:World} (h:Nb w w1) {b:Nat} (hb:w.heap.size<=b) (i i2:Nat) (u u2:Value):Nb w ((w1.setCell ⟨b,i,none⟩ u).setCell ⟨b,i2,none⟩ u2):=(h.s1 hb i u).s1 hb i2 u2
theorem Nb.s4 {w w1:World} (h:Nb w w1) {b:Nat} (hb:w.heap.size<=b) (i i2 i3 i4:Nat) (u u2 u3 u4:Value):Nb w ((((w1.setCell ⟨b,i,none⟩ u).setCell ⟨b,i2,none⟩ u2).setCell ⟨b,i3,none⟩ u3).setCell ⟨b,i4,none⟩ u4):=(h.s2 hb i i2 u u2).s2 hb i3 i4 u3 u4
theorem refcheck5_no (f:Hd) (a:Option Addr) (cap:Nat) (l:List Nat) (w:World) (hL:l.length<=9223372036854775807) (hh:hasF f.K (l.length:Int)=false) :
    Calls Tryd.prog 26 #[.agg (f.cs (.slice a l.length cap))] w fun e w'=>e = .returned (.int .i64 2)/\Nb w w':=by
 have hCode:=Lib.hid (refcode_any f.K (l.length:Int))
 rw[show codeE f.K (l.length:Int)=2 by simp[codeE,hh],show codeV f.K (l.length:Int)=0 by simp[codeV,hh]] at hCode
 clear hh
 obtain⟨K,I,X,R,B,E,S,D,V,A⟩:=f
 simp only[Hd.cs] at hCode ⊢
 go_enter Tryd.func26,Tryd.ntmps26
 go_wp2_with fail
 refine (hCode.out _).mono ?_
 rintro e w1 ⟨rfl,n1⟩
 go_wp2
 go_ret
 exact⟨rfl,((Nb.rfl.al _).al _).tr n1⟩
theorem refcheck5_fd (I:Int) (X R B E S:Bool) (D V A:Int) (a:Option Addr) (cap:Nat) (l:List Nat) (w:World) (hL:l.length<=9223372036854775807) (hh:hasF 2 (l.length:Int)=true) :
    Calls Tryd.prog 26 #[.agg (Hd.cs ⟨2,I,X,R,B,E,S,D,V,A⟩ (.slice a l.length cap))] w fun e w'=>e = .returned (.int .i64 (if okFd I X R S D V A then (0:Nat) else 2:Nat))/\Nb w w':=by
 have hCode:=Lib.hid (refcode_any 2 (l.length:Int))
 rw[show codeE 2 (l.length:Int)=0 by simp[codeE,hh]] at hCode
 generalize codeV 2 (l.length:Int)=cv at *
 clear hh
 simp only[Hd.cs]
 go_enter Tryd.func26,Tryd.ntmps26
 go_wp2_with fail
 refine (hCode.out _).mono ?_
 rintro e w1 ⟨rfl,n1⟩
 have hf:=((Blk.new w #[.int .i64 2,.int .u32 I,.bool X,.bool R,.bool B,.bool E,.bool S,.int .u8 D,.int .u8 V,.int .u32 A,.slice a l.length cap] 28).nb (Nb.rfl.al (.cells #[.int .i64 2,.int .u32 I,.bool X,.bool R,.bool B,.bool E,.bool S,.int .u8 D,.int .u8 V,.int .u32 A,.slice none 0 0] 28))).nb n1
 have hx:=(Blk.new (w.alloc (.cells #[.int .i64 2,.int .u32 I,.bool X,.bool R,.bool B,.bool E,.bool S,.int .u8 D,.int .u8 V,.int .u32 A,.slice a l.length cap] 28)) #[.int .i64 2,.int .u32 I,.bool X,.bool R,.bool B,.bool E,.bool S,.int .u8 D,.int .u8 V,.int .u32 A,.slice none 0 0] 28).nb n1
 rw[World.size_alloc] at hx
 have M:=Lib.hid (((Nb.rfl.al _).al _).tr n1:Nb w w1)
 obtain⟨c0,c1,c2,c3,c4,c5,c6,c7,c8,c9,c10⟩:=hf.c11
 obtain⟨d0,d1,d2,d3,d4,d5,d6,d7,d8,d9,d10⟩:=hx.c11
 obtain⟨g0,g1,g2,g3,g4,g5,g6,g7,g8,g9,g10⟩:=hx.f11
 clear hf hx n1
 go_wp2
 all_goals go_ret
 all_goals refine⟨by first | (simp_all [okFd];done) | (simp_all [okFd];omega),?_⟩
 all_goals first
  | exact M.out
  | exact M.out.s2 (by omega) _ _ _ _
theorem refcheck5_xl (I:Int) (X R B E S:Bool) (D V A:Int) (a:Option Addr) (cap:Nat) (l:List Nat) (w:World) (hL:l.length<=9223372036854775807) (hh:hasF 3 (l.length:Int)=true) :
    Calls Tryd.prog 26 #[.agg (Hd.cs ⟨3,I,X,R,B,E,S,D,V,A⟩ (.slice a l.length cap))] w fun e w'=>e = .returned (.int .i64 (if okXl I X R B E then (0:Nat) else 2:Nat))/\Nb w w':=by
 have hCode:=Lib.hid (refcode_any 3 (l.length:Int))
 rw[show codeE 3 (l.length:Int)=0 by simp[codeE,hh]] at hCode
 generalize codeV 3 (l.length:Int)=cv at *
 clear hh
 simp only[Hd.cs]
 go_enter Tryd.func26,Tryd.ntmps26
 go_wp2_with fail
 refine (hCode.out _).mono ?_
 rintro e w1 ⟨rfl,n1⟩
 have hf:=((Blk.new w #[.int .i64 3,.int .u32 I,.bool X,.bool R,.bool B,.bool E,.bool S,.int .u8 D,.int .u8 V,.int .u32 A,.slice a l.length cap] 28).nb (Nb.rfl.al (.cells #[.int .i64 3,.int .u32 I,.bool X,.bool R,.bool B,.bool E,.bool S,.int .u8 D,.int .u8 V,.int .u32 A,.slice none 0 0] 28))).nb n1
 have hx:=(Blk.new (w.alloc (.cells #[.int .i64 3,.int .u32 I,.bool X,.bool R,.bool B,.bool E,.bool S,.int .u8 D,.int .u8 V,.int .u32 A,.slice a l.length cap] 28)) #[.int .i64 3,.int .u32 I,.bool X,.bool R,.bool B,.bool E,.bool S,.int .u8 D,.int .u8 V,.int .u32 A,.slice none 0 0] 28).nb n1
 rw[World.size_alloc] at hx
 have M:=Lib.hid (((Nb.rfl.al _).al _).tr n1:Nb w w1)
 obtain⟨c0,c1,c2,c3,c4,c5,c6,c7,c8,c9,c10⟩:=hf.c11
 obtain⟨d0,d1,d2,d3,d4,d5,d6,d7,d8,d9,d10⟩:=hx.c11
 obtain⟨g0,g1,g2,g3,g4,g5,g6,g7,g8,g9,g10⟩:=hx.f11
 clear hf hx n1
 go_wp2
 all_goals go_ret
 all_goals refine⟨by first | (simp_all [okXl];done) | (simp_all [okXl];omega),?_⟩
 all_goals first
  | exact M.out
  | exact M.out.s4 (by omega) _ _ _ _ _ _ _ _
end Go.Proofs.YtaohmgklhecjbaaDoor
namespace Go.Proofs.YtaohmgklhecjbaaDoor
set_option linter.unusedVariables false
set_option linter.unusedSimpArgs false
open Go.RowKit
theorem refcheck5_cl_false_false (I:Int) (B E S:Bool) (D V A:Int) (a:Option Addr) (cap n:Nat) (w:World) (hL:n<=9223372036854775807) (hh:hasF 1 (n:Int)=true) (hi2:I < 536870912) (hi:I < 2048) :
    Calls Tryd.prog 26 #[.agg (Hd.cs ⟨1,I,false,false,B,E,S,D,V,A⟩ (.slice a n cap))] w fun e w'=>e = .returned (.int .i64 (if okCl I false false B E S D V A true then (0:Nat) else 2:Nat))/\Nb w w':=by
 have hCode:=Lib.hid (refcode_any 1 (n:Int))
 rw[show codeE 1 (n:Int)=0 by unfold codeE;rw[hh];rfl] at hCode
 generalize codeV 1 (n:Int)=cv at *
 clear hh
 simp only[Hd.cs]
 go_enter Tryd.func26,Tryd.ntmps26
 go_wp2_with fail
 refine (hCode.out _).mono ?_
 rintro e w1 ⟨rfl,n1⟩
 have hf:=((Blk.new w #[.int .i64 1,.int .u32 I,.bool false,.bool false,.bool B,.bool E,.bool S,.int .u8 D,.int .u8 V,.int .u32 A,.slice a n cap] 28).nb (Nb.rfl.al (.cells #[.int .i64 1,.int .u32 I,.bool false,.bool false,.bool B,.bool E,.bool S,.int .u8 D,.int .u8 V,.int .u32 A,.slice none 0 0] 28))).nb n1
 have hx:=(Blk.new (w.alloc (.cells #[.int .i64 1,.int .u32 I,.bool false,.bool false,.bool B,.bool E,.bool S,.int .u8 D,.int .u8 V,.int .u32 A,.slice a n cap] 28)) #[.int .i64 1,.int .u32 I,.bool false,.bool false,.bool B,.bool E,.bool S,.int .u8 D,.int .u8 V,.int .u32 A,.slice none 0 0] 28).nb n1
 rw[World.size_alloc] at hx
 have M:=Lib.hid (((Nb.rfl.al _).al _).tr n1:Nb w w1)
 obtain⟨c0,c1,c2,c3,c4,c5,c6,c7,c8,c9,c10⟩:=hf.c11
 obtain⟨d0,d1,d2,d3,d4,d5,d6,d7,d8,d9,d10⟩:=hx.c11
 obtain⟨g0,g1,g2,g3,g4,g5,g6,g7,g8,g9,g10⟩:=hx.f11
 clear hf hx n1
 go_wp2
 all_goals go_ret
 all_goals refine⟨by first | (simp_all [okCl];done) | (simp_all [okCl];omega),?_⟩
 all_goals first
  | exact M.out
  | exact M.out.s2 (by omega) _ _ _ _
theorem refcheck5_cl_false_true (I:Int) (B E S:Bool) (D V A:Int) (a:Option Addr) (cap n:Nat) (w:World) (hL:n<=9223372036854775807) (hh:hasF 1 (n:Int)=true) (hi2:I < 536870912) :
    Calls Tryd.prog 26 #[.agg (Hd.cs ⟨1,I,true,false,B,E,S,D,V,A⟩ (.slice a n cap))] w fun e w'=>e = .returned (.int .i64 (if okCl I true false B E S D V A true then (0:Nat) else 2:Nat))/\Nb w w':=by
 have hCode:=Lib.hid (refcode_any 1 (n:Int))
 rw[show codeE 1 (n:Int)=0 by unfold codeE;rw[hh];rfl] at hCode
 generalize codeV 1 (n:Int)=cv at *
 clear hh
 simp only[Hd.cs]
 go_enter Tryd.func26,Tryd.ntmps26
 go_wp2_with fail
 refine (hCode.out _).mono ?_
 rintro e w1 ⟨rfl,n1⟩
 have hf:=((Blk.new w #[.int .i64 1,.int .u32 I,.bool true,.bool false,.bool B,.bool E,.bool S,.int .u8 D,.int .u8 V,.int .u32 A,.slice a n cap] 28).nb (Nb.rfl.al (.cells #[.int .i64 1,.int .u32 I,.bool true,.bool false,.bool B,.bool E,.bool S,.int .u8 D,.int .u8 V,.int .u32 A,.slice none 0 0] 28))).nb n1
 have hx:=(Blk.new (w.alloc (.cells #[.int .i64 1,.int .u32 I,.bool true,.bool false,.bool B,.bool E,.bool S,.int .u8 D,.int .u8 V,.int .u32 A,.slice a n cap] 28)) #[.int .i64 1,.int .u32 I,.bool true,.bool false,.bool B,.bool E,.bool S,.int .u8 D,.int .u8 V,.int .u32 A,.slice none 0 0] 28).nb n1
 rw[World.size_alloc] at hx
 have M:=Lib.hid (((Nb.rfl.al _).al _).tr n1:Nb w w1)
 obtain⟨c0,c1,c2,c3,c4,c5,c6,c7,c8,c9,c10⟩:=hf.c11
 obtain⟨d0,d1,d2,d3,d4,d5,d6,d7,d8,d9,d10⟩:=hx.c11
 obtain⟨g0,g1,g2,g3,g4,g5,g6,g7,g8,g9,g10⟩:=hx.f11
 clear hf hx n1
 go_wp2
 all_goals go_ret
 all_goals refine⟨by first | (simp_all [okCl];done) | (simp_all [okCl];omega),?_⟩
 all_goals first
  | exact M.out
  | exact M.out.s2 (by omega) _ _ _ _
theorem refcheck5_cl_true_false (I:Int) (B E S:Bool) (D V A:Int) (a:Option Addr) (cap:Nat) (w:World) (hh:hasF 1 ((0:Nat):Int)=true) (hi2:I < 536870912) (hi:I < 2048) :
    Calls Tryd.prog 26 #[.agg (Hd.cs ⟨1,I,false,true,B,E,S,D,V,A⟩ (.slice a 0 cap))] w fun e w'=>e = .returned (.int .i64 (if okCl I false true B E S D V A true then (0:Nat) else 2:Nat))/\Nb w w':=by
 have hCode:=Lib.hid (refcode_any 1 ((0:Nat):Int))
 rw[show codeE 1 ((0:Nat):Int)=0 by unfold codeE;rw[hh];rfl] at hCode
 generalize codeV 1 ((0:Nat):Int)=cv at *
 clear hh
 simp only[Hd.cs]
 go_enter Tryd.func26,Tryd.ntmps26
 go_wp2_with fail
 refine (hCode.out _).mono ?_
 rintro e w1 ⟨rfl,n1⟩
 have hf:=((Blk.new w #[.int .i64 1,.int .u32 I,.bool false,.bool true,.bool B,.bool E,.bool S,.int .u8 D,.int .u8 V,.int .u32 A,.slice a 0 cap] 28).nb (Nb.rfl.al (.cells #[.int .i64 1,.int .u32 I,.bool false,.bool true,.bool B,.bool E,.bool S,.int .u8 D,.int .u8 V,.int .u32 A,.slice none 0 0] 28))).nb n1
 have hx:=(Blk.new (w.alloc (.cells #[.int .i64 1,.int .u32 I,.bool false,.bool true,.bool B,.bool E,.bool S,.int .u8 D,.int .u8 V,.int .u32 A,.slice a 0 cap] 28)) #[.int .i64 1,.int .u32 I,.bool false,.bool true,.bool B,.bool E,.bool S,.int .u8 D,.int .u8 V,.int .u32 A,.slice none 0 0] 28).nb n1
 rw[World.size_alloc] at hx
 have M:=Lib.hid (((Nb.rfl.al _).al _).tr n1:Nb w w1)
 obtain⟨c0,c1,c2,c3,c4,c5,c6,c7,c8,c9,c10⟩:=hf.c11
 obtain⟨d0,d1,d2,d3,d4,d5,d6,d7,d8,d9,d10⟩:=hx.c11
 obtain⟨g0,g1,g2,g3,g4,g5,g6,g7,g8,g9,g10⟩:=hx.f11
 clear hf hx n1
 go_wp2
 all_goals go_ret
 all_goals refine⟨by first | (simp_all [okCl];done) | (simp_all [okCl];omega),?_⟩
 all_goals first
  | exact M.out
  | exact M.out.s2 (by omega) _ _ _ _
theorem refcheck5_cl_true_true (I:Int) (B E S:Bool) (D V A:Int) (a:Option Addr) (cap:Nat) (w:World) (hh:hasF 1 ((0:Nat):Int)=true) (hi2:I < 536870912) :
    Calls Tryd.prog 26 #[.agg (Hd.cs ⟨1,I,true,true,B,E,S,D,V,A⟩ (.slice a 0 cap))] w fun e w'=>e = .returned (.int .i64 (if okCl I true true B E S D V A true then (0:Nat) else 2:Nat))/\Nb w w':=by
 have hCode:=Lib.hid (refcode_any 1 ((0:Nat):Int))
 rw[show codeE 1 ((0:Nat):Int)=0 by unfold codeE;rw[hh];rfl] at hCode
 generalize codeV 1 ((0:Nat):Int)=cv at *
 clear hh
 simp only[Hd.cs]
 go_enter Tryd.func26,Tryd.ntmps26
 go_wp2_with fail
 refine (hCode.out _).mono ?_
 rintro e w1 ⟨rfl,n1⟩
 have hf:=((Blk.new w #[.int .i64 1,.int .u32 I,.bool true,.bool true,.bool B,.bool E,.bool S,.int .u8 D,.int .u8 V,.int .u32 A,.slice a 0 cap] 28).nb (Nb.rfl.al (.cells #[.int .i64 1,.int .u32 I,.bool true,.bool true,.bool B,.bool E,.bool S,.int .u8 D,.int .u8 V,.int .u32 A,.slice none 0 0] 28))).nb n1
 have hx:=(Blk.new (w.alloc (.cells #[.int .i64 1,.int .u32 I,.bool true,.bool true,.bool B,.bool E,.bool S,.int .u8 D,.int .u8 V,.int .u32 A,.slice a 0 cap] 28)) #[.int .i64 1,.int .u32 I,.bool true,.bool true,.bool B,.bool E,.bool S,.int .u8 D,.int .u8 V,.int .u32 A,.slice none 0 0] 28).nb n1
 rw[World.size_alloc] at hx
 have M:=Lib.hid (((Nb.rfl.al _).al _).tr n1:Nb w w1)
 obtain⟨c0,c1,c2,c3,c4,c5,c6,c7,c8,c9,c10⟩:=hf.c11
 obtain⟨d0,d1,d2,d3,d4,d5,d6,d7,d8,d9,d10⟩:=hx.c11
 obtain⟨g0,g1,g2,g3,g4,g5,g6,g7,g8,g9,g10⟩:=hx.f11
 clear hf hx n1
 go_wp2
 all_goals go_ret
 all_goals refine⟨by first | (simp_all [okCl];done) | (simp_all [okCl];omega),?_⟩
 all_goals first
  | exact M.out
  | exact M.out.s2 (by omega) _ _ _ _
theorem refcheck5_b1 (I:Int) (X R B E S:Bool) (D V A:Int) (a:Option Addr) (cap n:Nat) (w:World) (hL:n<=9223372036854775807) (hh:hasF 1 (n:Int)=true) (hb:R=true/\0 < n) :
    Calls Tryd.prog 26 #[.agg (Hd.cs ⟨1,I,X,R,B,E,S,D,V,A⟩ (.slice a n cap))] w fun e w'=>e = .returned (.int .i64 2)/\Nb w w':=by
 have hCode:=Lib.hid (refcode_any 1 (n:Int))
 rw[show codeE 1 (n:Int)=0 by unfold codeE;rw[hh];rfl] at hCode
 generalize codeV 1 (n:Int)=cv at *
 clear hh
 simp only[Hd.cs]
 obtain⟨rfl,hn⟩:=hb
 go_enter Tryd.func26,Tryd.ntmps26
 go_wp2_with fail
 refine (hCode.out _).mono ?_
 rintro e w1 ⟨rfl,n1⟩
 have hf:=((Blk.new w #[.int .i64 1,.int .u32 I,.bool X,.bool true,.bool B,.bool E,.bool S,.int .u8 D,.int .u8 V,.int .u32 A,.slice a n cap] 28).nb (Nb.rfl.al (.cells #[.int .i64 1,.int .u32 I,.bool X,.bool true,.bool B,.bool E,.bool S,.int .u8 D,.int .u8 V,.int .u32 A,.slice none 0 0] 28))).nb n1
 have M:=Lib.hid (((Nb.rfl.al _).al _).tr n1:Nb w w1)
 obtain⟨c0,c1,c2,c3,c4,c5,c6,c7,c8,c9,c10⟩:=hf.c11
 clear hf n1
 go_wp2
 all_goals go_ret
 all_goals exact⟨rfl,M.out⟩
theorem refcheck5_b2 (I:Int) (X R B E S:Bool) (D V A:Int) (a:Option Addr) (cap n:Nat) (w:World) (hL:n<=9223372036854775807) (hh:hasF 1 (n:Int)=true) (hb:(R=false\/n=0)/\X=false/\2048<=I) :
    Calls Tryd.prog 26 #[.agg (Hd.cs ⟨1,I,X,R,B,E,S,D,V,A⟩ (.slice a n cap))] w fun e w'=>e = .returned (.int .i64 2)/\Nb w w':=by
 have hCode:=Lib.hid (refcode_any 1 (n:Int))
 rw[show codeE 1 (n:Int)=0 by unfold codeE;rw[hh];rfl] at hCode
 generalize codeV 1 (n:Int)=cv at *
 clear hh
 simp only[Hd.cs]
 obtain⟨hr,rfl,hi⟩:=hb
 go_enter Tryd.func26,Tryd.ntmps26
 go_wp2_with fail
 refine (hCode.out _).mono ?_
 rintro e w1 ⟨rfl,n1⟩
 have hf:=((Blk.new w #[.int .i64 1,.int .u32 I,.bool false,.bool R,.bool B,.bool E,.bool S,.int .u8 D,.int .u8 V,.int .u32 A,.slice a n cap] 28).nb (Nb.rfl.al (.cells #[.int .i64 1,.int .u32 I,.bool false,.bool R,.bool B,.bool E,.bool S,.int .u8 D,.int .u8 V,.int .u32 A,.slice none 0 0] 28))).nb n1
 have M:=Lib.hid (((Nb.rfl.al _).al _).tr n1:Nb w w1)
 obtain⟨c0,c1,c2,c3,c4,c5,c6,c7,c8,c9,c10⟩:=hf.c11
 clear hf n1
 go_wp2
 all_goals go_ret
 all_goals exact⟨rfl,M.out⟩
theorem refcheck5_b3 (I:Int) (X R B E S:Bool) (D V A:Int) (a:Option Addr) (cap n:Nat) (w:World) (hL:n<=9223372036854775807) (hh:hasF 1 (n:Int)=true) (hb:536870912<=I) :
    Calls Tryd.prog 26 #[.agg (Hd.cs ⟨1,I,X,R,B,E,S,D,V,A⟩ (.slice a n cap))] w fun e w'=>e = .returned (.int .i64 2)/\Nb w w':=by
 have hCode:=Lib.hid (refcode_any 1 (n:Int))
 rw[show codeE 1 (n:Int)=0 by unfold codeE;rw[hh];rfl] at hCode
 generalize codeV 1 (n:Int)=cv at *
 clear hh
 simp only[Hd.cs]
 go_enter Tryd.func26,Tryd.ntmps26
 go_wp2_with fail
 refine (hCode.out _).mono ?_
 rintro e w1 ⟨rfl,n1⟩
 have hf:=((Blk.new w #[.int .i64 1,.int .u32 I,.bool X,.bool R,.bool B,.bool E,.bool S,.int .u8 D,.int .u8 V,.int .u32 A,.slice a n cap] 28).nb (Nb.rfl.al (.cells #[.int .i64 1,.int .u32 I,.bool X,.bool R,.bool B,.bool E,.bool S,.int .u8 D,.int .u8 V,.int .u32 A,.slice none 0 0] 28))).nb n1
 have M:=Lib.hid (((Nb.rfl.al _).al _).tr n1:Nb w w1)
 obtain⟨c0,c1,c2,c3,c4,c5,c6,c7,c8,c9,c10⟩:=hf.c11
 clear hf n1
 go_wp2
 all_goals go_ret
 all_goals exact⟨rfl,M.out⟩
theorem refcheck5_any (f:Hd) (a:Option Addr) (cap:Nat) (l:List Nat) (w:World) (hL:l.length<=9223372036854775807) :
    Calls Tryd.prog 26 #[.agg (f.cs (.slice a l.length cap))] w fun e w'=>e = .returned (.int .i64 (checkN f l:Nat))/\Nb w w':=by
 cases hh:hasF f.K (l.length:Int) with
 | false =>
   rw[show checkN f l=2 by simp[checkN,okF,hh]]
   exact refcheck5_no f a cap l w hL hh
 | true =>
   obtain⟨K,I,X,R,B,E,S,D,V,A⟩:=f
   simp only at hh
   rcases hasF_kind hh with rfl | rfl | rfl
   ·have e:checkN ⟨1,I,X,R,B,E,S,D,V,A⟩ l=if okCl I X R B E S D V A (decide (l.length=0)) then 0 else 2:=by simp only[checkN,okF_cl,hh,Bool.true_and]
    rw[e]
    clear e
    generalize l.length=n at *
    by_cases h3:536870912<=I
    ·rw[show okCl I X R B E S D V A (decide (n=0))=false by simp[okCl,show ¬I < 536870912 by omega]]
     exact refcheck5_b3 I X R B E S D V A a cap n w hL hh h3
    by_cases h1:R=true/\0 < n
    ·rw[show okCl I X R B E S D V A (decide (n=0))=false by simp[okCl,h1.1,show ¬n=0 by omega]]
     exact refcheck5_b1 I X R B E S D V A a cap n w hL hh h1
    have hr:R=false\/n=0:=by
     cases R
     ·exact .inl rfl
     ·exact .inr (Nat.eq_zero_of_not_pos fun h=>h1 ⟨rfl,h⟩)
    by_cases h2:X=false/\2048<=I
    ·rw[show okCl I X R B E S D V A (decide (n=0))=false by simp[okCl,h2.1,show ¬I < 2048 by omega]]
     exact refcheck5_b2 I X R B E S D V A a cap n w hL hh ⟨hr,h2.1,h2.2⟩
    have h3':I < 536870912:=by omega
    cases R
    ·rw[show okCl I X false B E S D V A (decide (n=0))=okCl I X false B E S D V A true by simp[okCl]]
     cases X
     ·exact refcheck5_cl_false_false I B E S D V A a cap n w hL hh h3' (by false_or_by_contra;exact h2 ⟨rfl,by omega⟩)
     ·exact refcheck5_cl_false_true I B E S D V A a cap n w hL hh h3'
    ·obtain rfl:n=0:=by rcases hr with h | h;cases h;exact h
     cases X
     ·exact refcheck5_cl_true_false I B E S D V A a cap w hh h3' (by false_or_by_contra;exact h2 ⟨rfl,by omega⟩)
     ·exact refcheck5_cl_true_true I B E S D V A a cap w hh h3'
   ·rw[show checkN ⟨2,I,X,R,B,E,S,D,V,A⟩ l=if okFd I X R S D V A then 0 else 2 by simp only[checkN,okF_fd,hh,Bool.true_and]]
    exact refcheck5_fd I X R B E S D V A a cap l w hL hh
   ·rw[show checkN ⟨3,I,X,R,B,E,S,D,V,A⟩ l=if okXl I X R B E then 0 else 2 by simp only[checkN,okF_xl,hh,Bool.true_and]]
    exact refcheck5_xl I X R B E S D V A a cap l w hL hh
end Go.Proofs.YtaohmgklhecjbaaDoor
