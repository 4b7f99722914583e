/- Contracts of identifiers and told. No conditions. Contract of frame.Check, and when a frame may be. Condition: the table of longer sizes holds what the program's text lays there. Contract of the document's Check. No conditions. Contract of the document Check, a Classic frame. No conditions. Contract of frame.Copy. Condition: a frame's bytes are at most 2 to the 47. Contract of frame.Copy, whatever room an empty row has. Condition: a frame's bytes are at most 2 to the 47. -/
import Derived.Test.YtlmbggmamemmjaaDoorFrmE
import Derived.RegionTactic
import Derived.Test.YtlmbggmamemmjaaDoorGf
import Derived.Deep.RegionHeld3
set_option maxHeartbeats 8000000
set_option maxRecDepth 100000
namespace Go.Proofs.YtlmbggmamemmjaaDoor
set_option linter.unusedVariables false
set_option linter.unusedSimpArgs false
open Go.RowKit
def toldH (f:Hd):Hd :=
 { K:=f.K,I:=f.I,X:=if f.K=1 then f.X else false,R:=if f.K=1 then f.R else false,B:=if f.K=2 then f.B else false,E:=if f.K=2 then f.E else false,
   S:=if f.K=3 then f.S else false,D:=if f.K=3 then f.D else 0,V:=if f.K=3 then f.V else 0,A:=if f.K=3 then f.A else 0 }
def idsF (f:Hd):Nat:=if f.X then 536870912 else 2048
theorem ids_any (f:Hd) (v:Value) (w:World) :
    Calls Tryd.prog 31 #[.agg (f.cs v)] w fun e w'=>e = .returned (.int .u32 (idsF f:Nat))/\Nb w w':=by
 obtain⟨K,I,X,R,B,E,S,D,V,A⟩:=f
 simp only[Hd.cs,idsF]
 cases X
 ·go_enter Tryd.func31,Tryd.ntmps31
  go_wp2
  go_ret
  exact⟨rfl,Nb.rfl.al _⟩
 ·go_enter Tryd.func31,Tryd.ntmps31
  go_wp2
  go_ret
  exact⟨rfl,Nb.rfl.al _⟩
def toldV (f:Hd) (v:Value):Value:=if f.K=1/\f.R=true then .slice none 0 0 else v
theorem told_rtr (I:Int) (X B E S:Bool) (D V A:Int) (a:Option Addr) (n cap:Nat) (w:World) :
    Calls Tryd.prog 32 #[.agg (Hd.cs ⟨1,I,X,true,B,E,S,D,V,A⟩ (.slice a n cap))] w fun e w'=>e = .returned (.agg (Hd.cs ⟨1,I,X,true,false,false,false,0,0,0⟩ (.slice none 0 0)))/\Nb w w':=by
 simp only[Hd.cs]
 go_enter Tryd.func32,Tryd.ntmps32
 go_wp2
 go_region
 go_wp2
 refine bodyPost_ret (v := .agg (Hd.cs ⟨1,I,X,true,false,false,false,0,0,0⟩ (.slice none 0 0))) (by simp[results,Tryd.results32,go_sem,Hd.cs]) rfl ⟨rfl,?_⟩
 first
  | exact ((Nb.rfl.al _).al _).al _
  | exact Nb.tr (((Nb.rfl.al _).al _).al _) (Below.drew (Below.refl _ _))
theorem told_cl (I:Int) (X B E S:Bool) (D V A:Int) (a:Option Addr) (n cap:Nat) (w:World) :
    Calls Tryd.prog 32 #[.agg (Hd.cs ⟨1,I,X,false,B,E,S,D,V,A⟩ (.slice a n cap))] w fun e w'=>e = .returned (.agg (Hd.cs ⟨1,I,X,false,false,false,false,0,0,0⟩ (.slice a n cap)))/\Nb w w':=by
 simp only[Hd.cs]
 go_enter Tryd.func32,Tryd.ntmps32
 go_wp2
 go_region
 go_wp2
 refine bodyPost_ret (v := .agg (Hd.cs ⟨1,I,X,false,false,false,false,0,0,0⟩ (.slice a n cap))) (by simp[results,Tryd.results32,go_sem,Hd.cs]) rfl ⟨rfl,?_⟩
 first
  | exact ((Nb.rfl.al _).al _).al _
  | exact Nb.tr (((Nb.rfl.al _).al _).al _) (Below.drew (Below.refl _ _))
theorem told_fd (I:Int) (X R B E S:Bool) (D V A:Int) (a:Option Addr) (n cap:Nat) (w:World) :
    Calls Tryd.prog 32 #[.agg (Hd.cs ⟨2,I,X,R,B,E,S,D,V,A⟩ (.slice a n cap))] w fun e w'=>e = .returned (.agg (Hd.cs ⟨2,I,false,false,B,E,false,0,0,0⟩ (.slice a n cap)))/\Nb w w':=by
 simp only[Hd.cs]
 go_enter Tryd.func32,Tryd.ntmps32
 go_wp2
 go_region
 go_wp2
 refine bodyPost_ret (v := .agg (Hd.cs ⟨2,I,false,false,B,E,false,0,0,0⟩ (.slice a n cap))) (by simp[results,Tryd.results32,go_sem,Hd.cs]) rfl ⟨rfl,?_⟩
 first
  | exact ((Nb.rfl.al _).al _).al _
  | exact Nb.tr (((Nb.rfl.al _).al _).al _) (Below.drew (Below.refl _ _))
theorem told_xl (I:Int) (X R B E S:Bool) (D V A:Int) (a:Option Addr) (n cap:Nat) (w:World) :
    Calls Tryd.prog 32 #[.agg (Hd.cs ⟨3,I,X,R,B,E,S,D,V,A⟩ (.slice a n cap))] w fun e w'=>e = .returned (.agg (Hd.cs ⟨3,I,false,false,false,false,S,D,V,A⟩ (.slice a n cap)))/\Nb w w':=by
 simp only[Hd.cs]
 go_enter Tryd.func32,Tryd.ntmps32
 go_wp2
 go_region
 go_wp2
 refine bodyPost_ret (v := .agg (Hd.cs ⟨3,I,false,false,false,false,S,D,V,A⟩ (.slice a n cap))) (by simp[results,Tryd.results32,go_sem,Hd.cs]) rfl ⟨rfl,?_⟩
 first
  | exact ((Nb.rfl.al _).al _).al _
  | exact Nb.tr (((Nb.rfl.al _).al _).al _) (Below.drew (Below.refl _ _))
theorem told_no (K I:Int) (X R B E S:Bool) (D V A:Int) (a:Option Addr) (n cap:Nat) (w:World) (d1:(K==1)=false) (d2:(K==2)=false) (d3:(K==3)=false) :
    Calls Tryd.prog 32 #[.agg (Hd.cs ⟨K,I,X,R,B,E,S,D,V,A⟩ (.slice a n cap))] w fun e w'=>e = .returned (.agg (Hd.cs ⟨K,I,false,false,false,false,false,0,0,0⟩ (.slice a n cap)))/\Nb w w':=by
 simp only[Hd.cs]
 go_enter Tryd.func32,Tryd.ntmps32
 go_wp2
 refine bodyPost_ret (v := .agg (Hd.cs ⟨K,I,false,false,false,false,false,0,0,0⟩ (.slice a n cap))) (by simp[results,Tryd.results32,go_sem,Hd.cs]) rfl ⟨rfl,?_⟩
 first
  | exact ((Nb.rfl.al _).al _).al _
  | exact Nb.tr (((Nb.rfl.al _).al _).al _) (Below.drew (Below.refl _ _))
theorem told_any (f:Hd) (a:Option Addr) (n cap:Nat) (w:World) :
    Calls Tryd.prog 32 #[.agg (f.cs (.slice a n cap))] w fun e w'=>e = .returned (.agg ((toldH f).cs (toldV f (.slice a n cap))))/\Nb w w':=by
 obtain⟨K,I,X,R,B,E,S,D,V,A⟩:=f
 rcases (by omega:(K=1\/K=2\/K=3)\/(K≠1/\K≠2/\K≠3)) with (rfl | rfl | rfl) | ⟨h1,h2,h3⟩
 ·cases R
  ·exact told_cl I X B E S D V A a n cap w
  ·exact told_rtr I X B E S D V A a n cap w
 ·exact told_fd I X R B E S D V A a n cap w
 ·exact told_xl I X R B E S D V A a n cap w
 ·have:=told_no K I X R B E S D V A a n cap w (by simpa using h1) (by simpa using h2) (by simpa using h3)
  simpa only[toldH,toldV,h1,h2,h3,if_false,false_and] using this
end Go.Proofs.YtlmbggmamemmjaaDoor
namespace Go.Proofs.YtlmbggmamemmjaaDoor
set_option linter.unusedVariables false
set_option linter.unusedSimpArgs false
open Go.RowKit
def toldL (f:Hd) (l:List Nat):List Nat:=if f.K=1/\f.R=true then [] else l
def toldA (f:Hd) (a:Option Addr):Option Addr:=if f.K=1/\f.R=true then none else a
def toldC (f:Hd) (c:Nat):Nat:=if f.K=1/\f.R=true then 0 else c
theorem toldV_eq (f:Hd) (a:Option Addr) (l:List Nat) (cap:Nat):toldV f (.slice a l.length cap) = .slice (toldA f a) (toldL f l).length (toldC f cap):=by
 unfold toldV toldA toldL toldC
 split<;>rfl
theorem toldV_bs {f:Hd} {w:World} {a:Option Addr} {l:List Nat} {cap:Nat} (h:Bs w a cap l):Bs w (toldA f a) (toldC f cap) (toldL f l):=by
 unfold toldA toldL toldC
 split
 ·exact Bs.nil w
 ·exact h
def okF (f:Hd) (l:List Nat):Bool:=hasF f.K (l.length:Int)&&(decide (f.I < (idsF f:Int))&&sameF f (toldH f) l (toldL f l))
def checkN (f:Hd) (l:List Nat):Nat:=if okF f l then 0 else 2
theorem Blk.c11 {w:World} {R:Nat} {u0 u1 u2 u3 u4 u5 u6 u7 u8 u9 u10:Value} {t:TypeId} (h:Blk w R #[u0,u1,u2,u3,u4,u5,u6,u7,u8,u9,u10] t):w.cell? ⟨R,0,none⟩=some u0/\w.cell? ⟨R,1,none⟩=some u1/\w.cell? ⟨R,2,none⟩=some u2/\w.cell? ⟨R,3,none⟩=some u3/\w.cell? ⟨R,4,none⟩=some u4/\w.cell? ⟨R,5,none⟩=some u5/\w.cell? ⟨R,6,none⟩=some u6/\w.cell? ⟨R,7,none⟩=some u7/\w.cell? ⟨R,8,none⟩=some u8/\w.cell? ⟨R,9,none⟩=some u9/\w.cell? ⟨R,10,none⟩=some u10:=⟨h.cell 0,h.cell 1,h.cell 2,h.cell 3,h.cell 4,h.cell 5,h.cell 6,h.cell 7,h.cell 8,h.cell 9,h.cell 10⟩
theorem Blk.f11 {w:World} {R:Nat} {u0 u1 u2 u3 u4 u5 u6 u7 u8 u9 u10:Value} {t:TypeId} (h:Blk w R #[u0,u1,u2,u3,u4,u5,u6,u7,u8,u9,u10] t):w.frozen? ⟨R,0,none⟩=false/\w.frozen? ⟨R,1,none⟩=false/\w.frozen? ⟨R,2,none⟩=false/\w.frozen? ⟨R,3,none⟩=false/\w.frozen? ⟨R,4,none⟩=false/\w.frozen? ⟨R,5,none⟩=false/\w.frozen? ⟨R,6,none⟩=false/\w.frozen? ⟨R,7,none⟩=false/\w.frozen? ⟨R,8,none⟩=false/\w.frozen? ⟨R,9,none⟩=false/\w.frozen? ⟨R,10,none⟩=false:=⟨h.frozen 0,h.frozen 1,h.frozen 2,h.frozen 3,h.frozen 4,h.frozen 5,h.frozen 6,h.frozen 7,h.frozen 8,h.frozen 9,h.frozen 10⟩
theorem check5_any (f:Hd) (a:Option Addr) (cap:Nat) (l:List Nat) (w:World) (h:Bs w a cap l) (hl:Longer w) :
    Calls Tryd.prog 22 #[.agg (f.cs (.slice a l.length cap))] w fun e w'=>e = .returned (.int .i64 (checkN f l:Nat))/\Nb w w':=by
 have hL:=h.len
 have hCode:=Lib.hid (code_any f.K (l.length:Int) _ (hl.below (Nb.rfl.al (.cells (f.cs (.slice a l.length cap)) 36))))
 have hIds:=Lib.hid (ids_any f (.slice a l.length cap))
 have hTold:=Lib.hid (told_any f a l.length cap)
 have hSame:=Lib.hid (fun w' (hn:Nb w w')=>same5_any f (toldH f) a (toldA f a) cap (toldC f cap) l (toldL f l) w' (h.below hn) (toldV_bs (h.below hn)))
 simp only[<- toldV_eq] at hSame
 cases hh:hasF f.K (l.length:Int) with
 | false =>
   rw[show codeE f.K (l.length:Int)=2 by simp[codeE,hh],show codeV f.K (l.length:Int)=0 by simp[codeV,hh]] at hCode
   rw[show checkN f l=2 by simp[checkN,okF,hh]]
   clear hh h hl hIds hTold hSame
   obtain⟨K,I,X,R,B,E,S,D,V,A⟩:=f
   simp only[Hd.cs] at hCode ⊢
   go_enter Tryd.func22,Tryd.ntmps22
   go_wp2_with fail
   refine hCode.out.mono ?_
   rintro e w1 ⟨rfl,n1⟩
   obtain⟨c0,c1,c2,c3,c4,c5,c6,c7,c8,c9,c10⟩:=((Blk.new w _ _).nb n1).c11
   go_wp2_with fail
   go_quiet (fail)
   go_wp2
   go_ret
   exact⟨rfl,((Nb.rfl.al _).tr n1).tr (Nb.drewN _ _)⟩
 | true =>
   rw[show codeE f.K (l.length:Int)=0 by simp[codeE,hh]] at hCode
   by_cases hi:f.I < (idsF f:Int)
   ·have hi2:decide ((idsF f:Int)<=f.I)=false:=by simpa using hi
    rw[show checkN f l=if sameF f (toldH f) l (toldL f l) then 0 else 2 by simp[checkN,okF,hh,hi]]
    clear hh h hl hi
    generalize codeV f.K (l.length:Int)=cv at *
    generalize (Value.agg ((toldH f).cs (toldV f (.slice a l.length cap))))=tv at *
    generalize sameF f (toldH f) l (toldL f l)=sb at *
    obtain⟨K,I,X,R,B,E,S,D,V,A⟩:=f
    generalize idsF _=idn at *
    simp only[Hd.cs] at hCode hIds hTold hSame hi2 ⊢
    go_enter Tryd.func22,Tryd.ntmps22
    go_wp2_with fail
    refine hCode.out.mono ?_
    rintro e w1 ⟨rfl,n1⟩
    have HB:=Lib.hid ((Blk.new w #[.int .i64 K,.int .u32 I,.bool X,.bool R,.bool B,.bool E,.bool S,.int .u8 D,.int .u8 V,.int .u32 A,.slice a l.length cap] 36).nb n1)
    have m1:=Lib.hid ((Nb.rfl.al _).tr n1:Nb w w1)
    obtain⟨c0,c1,c2,c3,c4,c5,c6,c7,c8,c9,c10⟩:=HB.out.c11
    clear n1
    go_wp2_with fail
    go_region_held3 (fun w'=>w'.cell? ⟨w.heap.size,0,none⟩=some (.int .i64 K)/\w'.cell? ⟨w.heap.size,1,none⟩=some (.int .u32 I)/\w'.cell? ⟨w.heap.size,2,none⟩=some (.bool X)/\w'.cell? ⟨w.heap.size,3,none⟩=some (.bool R)/\w'.cell? ⟨w.heap.size,4,none⟩=some (.bool B)/\w'.cell? ⟨w.heap.size,5,none⟩=some (.bool E)/\w'.cell? ⟨w.heap.size,6,none⟩=some (.bool S)/\w'.cell? ⟨w.heap.size,7,none⟩=some (.int .u8 D)/\w'.cell? ⟨w.heap.size,8,none⟩=some (.int .u8 V)/\w'.cell? ⟨w.heap.size,9,none⟩=some (.int .u32 A)/\w'.cell? ⟨w.heap.size,10,none⟩=some (.slice a l.length cap)) (first | go_keep | exact (HB.out.nb (Nb.tr (Below.drew (Below.refl _ _):Nb w1 w1.drew) n5)).c11 | exact (HB.out.nb ((Nb.tr (Below.drew (Below.refl _ _):Nb w1 w1.drew) n5).tr n6)).c11 | exact (HB.out.nb (((Nb.tr (Below.drew (Below.refl _ _):Nb w1 w1.drew) n5).tr n6).tr n7)).c11)
     (first
      | (go_at_call 31;refine (hIds.out _).mono ?_;rintro e w5 ⟨rfl,n5⟩)
      | (go_at_call 32;refine (hTold.out _).mono ?_;rintro e w6 ⟨rfl,n6⟩)
      | (go_at_call 23;refine (hSame.out _ (((m1.out.tr (Below.drew (Below.refl _ _):Nb w1 w1.drew)).tr n5).tr n6)).mono ?_;rintro e w7 ⟨rfl,n7⟩))
    cases sb
    all_goals go_wp2
    all_goals go_ret
    all_goals exact⟨rfl,(((m1.out.tr (Below.drew (Below.refl _ _):Nb w1 w1.drew)).tr n5).tr n6).tr n7⟩
   ·have hi2:decide ((idsF f:Int)<=f.I)=true:=by simpa using hi
    rw[show checkN f l=2 by simp[checkN,okF,hh,hi]]
    clear hh h hl hi hTold hSame
    generalize codeV f.K (l.length:Int)=cv at *
    obtain⟨K,I,X,R,B,E,S,D,V,A⟩:=f
    generalize idsF _=idn at *
    simp only[Hd.cs] at hCode hIds hi2 ⊢
    go_enter Tryd.func22,Tryd.ntmps22
    go_wp2_with fail
    refine hCode.out.mono ?_
    rintro e w1 ⟨rfl,n1⟩
    have HB:=Lib.hid ((Blk.new w #[.int .i64 K,.int .u32 I,.bool X,.bool R,.bool B,.bool E,.bool S,.int .u8 D,.int .u8 V,.int .u32 A,.slice a l.length cap] 36).nb n1)
    have m1:=Lib.hid ((Nb.rfl.al _).tr n1:Nb w w1)
    obtain⟨c0,c1,c2,c3,c4,c5,c6,c7,c8,c9,c10⟩:=HB.out.c11
    clear n1
    go_wp2_with fail
    go_region_with ((go_at_call 31;refine (hIds.out _).mono ?_;rintro e w5 ⟨rfl,n5⟩;obtain⟨c0,c1,c2,c3,c4,c5,c6,c7,c8,c9,c10⟩:=(HB.out.nb (Nb.tr (Below.drew (Below.refl _ _):Nb w1 w1.drew) n5)).c11))
    all_goals go_wp2
    all_goals go_ret
    all_goals exact⟨rfl,(m1.out.tr (Below.drew (Below.refl _ _):Nb w1 w1.drew)).tr n5⟩
end Go.Proofs.YtlmbggmamemmjaaDoor
namespace Go.Proofs.YtlmbggmamemmjaaDoor
set_option linter.unusedVariables false
set_option linter.unusedSimpArgs false
open Go.RowKit
def okCl (I:Int) (X R B E S:Bool) (D V A:Int) (z:Bool):Bool:=(!R||z)&&((X||decide (I < 2048))&&(decide (I < 536870912)&&(!B&&(!E&&(!S&&(D==0&&(V==0&&A==0)))))))
def okFd (I:Int) (X R S:Bool) (D V A:Int):Bool:=decide (I < 2048)&&(!X&&(!R&&(!S&&(D==0&&(V==0&&A==0)))))
def okXl (I:Int) (X R B E:Bool):Bool:=decide (I < 2048)&&(!X&&(!R&&(!B && !E)))
theorem okF_cl (I:Int) (X R B E S:Bool) (D V A:Int) (l:List Nat):okF ⟨1,I,X,R,B,E,S,D,V,A⟩ l=(hasF 1 (l.length:Int)&&okCl I X R B E S D V A (decide (l.length=0))):=by
 have hl:(l.length=0)=(l=[]):=propext List.length_eq_zero_iff
 cases X<;>cases R<;>by_cases hz:l=[]<;>by_cases h1:I < 2048<;>by_cases h2:I < 536870912<;>first
  | (exfalso;omega)
  | simp[okF,okCl,idsF,sameF,Hd.eqb,toldH,toldL,hl,hz,h1,h2]
theorem okF_fd (I:Int) (X R B E S:Bool) (D V A:Int) (l:List Nat):okF ⟨2,I,X,R,B,E,S,D,V,A⟩ l=(hasF 2 (l.length:Int)&&okFd I X R S D V A):=by
 cases X<;>simp[okF,okFd,idsF,sameF,Hd.eqb,toldH,toldL]
theorem okF_xl (I:Int) (X R B E S:Bool) (D V A:Int) (l:List Nat):okF ⟨3,I,X,R,B,E,S,D,V,A⟩ l=(hasF 3 (l.length:Int)&&okXl I X R B E):=by
 cases X<;>simp[okF,okXl,idsF,sameF,Hd.eqb,toldH,toldL]
theorem hasF_kind {k s:Int} (h:hasF k s=true):k=1\/k=2\/k=3:=by
 rcases kind_cases k with h1 | ⟨h1,h2,h3⟩
 ·exact h1
 ·have:=((hasF_iff k s).1 h).1
  simp[cntF,h1,h2,h3] at this
theorem Nb.s1 {w w1:World} (h:Nb w w1) {b:Nat} (hb:w.heap.size<=b) (i:Nat) (u:Value):Nb w (w1.setCell ⟨b,i,none⟩ u):=h.st hb u
theorem Nb.s2 {w w1:World} (h:Nb w w1) {b:Nat} (hb:w.heap.size<=b) (i i2:Nat) (u u2:Value):Nb w ((w1.setCell ⟨b,i,none⟩ u).setCell ⟨b,i2,none⟩ u2):=(h.s1 hb i u).s1 hb i2 u2
theorem Nb.s4 {w w1:World} (h:Nb w w1) {b:Nat} (hb:w.heap.size<=b) (i i2 i3 i4:Nat) (u u2 u3 u4:Value):Nb w ((((w1.setCell ⟨b,i,none⟩ u).setCell ⟨b,i2,none⟩ u2).setCell ⟨b,i3,none⟩ u3).setCell ⟨b,i4,none⟩ u4):=(h.s2 hb i i2 u u2).s2 hb i3 i4 u3 u4
theorem refcheck5_no (f:Hd) (a:Option Addr) (cap:Nat) (l:List Nat) (w:World) (hL:l.length<=9223372036854775807) (hh:hasF f.K (l.length:Int)=false) :
    Calls Tryd.prog 28 #[.agg (f.cs (.slice a l.length cap))] w fun e w'=>e = .returned (.int .i64 2)/\Nb w w':=by
 have hCode:=Lib.hid (refcode_any f.K (l.length:Int))
 rw[show codeE f.K (l.length:Int)=2 by simp[codeE,hh],show codeV f.K (l.length:Int)=0 by simp[codeV,hh]] at hCode
 clear hh
 obtain⟨K,I,X,R,B,E,S,D,V,A⟩:=f
 simp only[Hd.cs] at hCode ⊢
 go_enter Tryd.func28,Tryd.ntmps28
 go_wp2_with fail
 refine (hCode.out _).mono ?_
 rintro e w1 ⟨rfl,n1⟩
 go_wp2
 go_ret
 exact⟨rfl,((Nb.rfl.al _).al _).tr n1⟩
theorem refcheck5_fd (I:Int) (X R B E S:Bool) (D V A:Int) (a:Option Addr) (cap:Nat) (l:List Nat) (w:World) (hL:l.length<=9223372036854775807) (hh:hasF 2 (l.length:Int)=true) :
    Calls Tryd.prog 28 #[.agg (Hd.cs ⟨2,I,X,R,B,E,S,D,V,A⟩ (.slice a l.length cap))] w fun e w'=>e = .returned (.int .i64 (if okFd I X R S D V A then (0:Nat) else 2:Nat))/\Nb w w':=by
 have hCode:=Lib.hid (refcode_any 2 (l.length:Int))
 rw[show codeE 2 (l.length:Int)=0 by simp[codeE,hh]] at hCode
 generalize codeV 2 (l.length:Int)=cv at *
 clear hh
 simp only[Hd.cs]
 go_enter Tryd.func28,Tryd.ntmps28
 go_wp2_with fail
 refine (hCode.out _).mono ?_
 rintro e w1 ⟨rfl,n1⟩
 have hf:=((Blk.new w #[.int .i64 2,.int .u32 I,.bool X,.bool R,.bool B,.bool E,.bool S,.int .u8 D,.int .u8 V,.int .u32 A,.slice a l.length cap] 36).nb (Nb.rfl.al (.cells #[.int .i64 2,.int .u32 I,.bool X,.bool R,.bool B,.bool E,.bool S,.int .u8 D,.int .u8 V,.int .u32 A,.slice none 0 0] 36))).nb n1
 have hx:=(Blk.new (w.alloc (.cells #[.int .i64 2,.int .u32 I,.bool X,.bool R,.bool B,.bool E,.bool S,.int .u8 D,.int .u8 V,.int .u32 A,.slice a l.length cap] 36)) #[.int .i64 2,.int .u32 I,.bool X,.bool R,.bool B,.bool E,.bool S,.int .u8 D,.int .u8 V,.int .u32 A,.slice none 0 0] 36).nb n1
 rw[World.size_alloc] at hx
 have M:=Lib.hid (((Nb.rfl.al _).al _).tr n1:Nb w w1)
 obtain⟨c0,c1,c2,c3,c4,c5,c6,c7,c8,c9,c10⟩:=hf.c11
 obtain⟨d0,d1,d2,d3,d4,d5,d6,d7,d8,d9,d10⟩:=hx.c11
 obtain⟨g0,g1,g2,g3,g4,g5,g6,g7,g8,g9,g10⟩:=hx.f11
 clear hf hx n1
 go_wp2
 all_goals go_ret
 all_goals refine⟨by first | (simp_all [okFd];done) | (simp_all [okFd];omega),?_⟩
 all_goals first
  | exact M.out
  | exact M.out.s2 (by omega) _ _ _ _
theorem refcheck5_xl (I:Int) (X R B E S:Bool) (D V A:Int) (a:Option Addr) (cap:Nat) (l:List Nat) (w:World) (hL:l.length<=9223372036854775807) (hh:hasF 3 (l.length:Int)=true) :
    Calls Tryd.prog 28 #[.agg (Hd.cs ⟨3,I,X,R,B,E,S,D,V,A⟩ (.slice a l.length cap))] w fun e w'=>e = .returned (.int .i64 (if okXl I X R B E then (0:Nat) else 2:Nat))/\Nb w w':=by
 have hCode:=Lib.hid (refcode_any 3 (l.length:Int))
 rw[show codeE 3 (l.length:Int)=0 by simp[codeE,hh]] at hCode
 generalize codeV 3 (l.length:Int)=cv at *
 clear hh
 simp only[Hd.cs]
 go_enter Tryd.func28,Tryd.ntmps28
 go_wp2_with fail
 refine (hCode.out _).mono ?_
 rintro e w1 ⟨rfl,n1⟩
 have hf:=((Blk.new w #[.int .i64 3,.int .u32 I,.bool X,.bool R,.bool B,.bool E,.bool S,.int .u8 D,.int .u8 V,.int .u32 A,.slice a l.length cap] 36).nb (Nb.rfl.al (.cells #[.int .i64 3,.int .u32 I,.bool X,.bool R,.bool B,.bool E,.bool S,.int .u8 D,.int .u8 V,.int .u32 A,.slice none 0 0] 36))).nb n1
 have hx:=(Blk.new (w.alloc (.cells #[.int .i64 3,.int .u32 I,.bool X,.bool R,.bool B,.bool E,.bool S,.int .u8 D,.int .u8 V,.int .u32 A,.slice a l.length cap] 36)) #[.int .i64 3,.int .u32 I,.bool X,.bool R,.bool B,.bool E,.bool S,.int .u8 D,.int .u8 V,.int .u32 A,.slice none 0 0] 36).nb n1
 rw[World.size_alloc] at hx
 have M:=Lib.hid (((Nb.rfl.al _).al _).tr n1:Nb w w1)
 obtain⟨c0,c1,c2,c3,c4,c5,c6,c7,c8,c9,c10⟩:=hf.c11
 obtain⟨d0,d1,d2,d3,d4,d5,d6,d7,d8,d9,d10⟩:=hx.c11
 obtain⟨g0,g1,g2,g3,g4,g5,g6,g7,g8,g9,g10⟩:=hx.f11
 clear hf hx n1
 go_wp2
 all_goals go_ret
 all_goals refine⟨by first | (simp_all [okXl];done) | (simp_all [okXl];omega),?_⟩
 all_goals first
  | exact M.out
  | exact M.out.s4 (by omega) _ _ _ _ _ _ _ _
end Go.Proofs.YtlmbggmamemmjaaDoor
namespace Go.Proofs.YtlmbggmamemmjaaDoor
set_option linter.unusedVariables false
set_option linter.unusedSimpArgs false
open Go.RowKit
theorem refcheck5_cl_false_false (I:Int) (B E S:Bool) (D V A:Int) (a:Option Addr) (cap n:Nat) (w:World) (hL:n<=9223372036854775807) (hh:hasF 1 (n:Int)=true) (hi2:I < 536870912) (hi:I < 2048) :
    Calls Tryd.prog 28 #[.agg (Hd.cs ⟨1,I,false,false,B,E,S,D,V,A⟩ (.slice a n cap))] w fun e w'=>e = .returned (.int .i64 (if okCl I false false B E S D V A true then (0:Nat) else 2:Nat))/\Nb w w':=by
 have hCode:=Lib.hid (refcode_any 1 (n:Int))
 rw[show codeE 1 (n:Int)=0 by unfold codeE;rw[hh];rfl] at hCode
 generalize codeV 1 (n:Int)=cv at *
 clear hh
 simp only[Hd.cs]
 go_enter Tryd.func28,Tryd.ntmps28
 go_wp2_with fail
 refine (hCode.out _).mono ?_
 rintro e w1 ⟨rfl,n1⟩
 have hf:=((Blk.new w #[.int .i64 1,.int .u32 I,.bool false,.bool false,.bool B,.bool E,.bool S,.int .u8 D,.int .u8 V,.int .u32 A,.slice a n cap] 36).nb (Nb.rfl.al (.cells #[.int .i64 1,.int .u32 I,.bool false,.bool false,.bool B,.bool E,.bool S,.int .u8 D,.int .u8 V,.int .u32 A,.slice none 0 0] 36))).nb n1
 have hx:=(Blk.new (w.alloc (.cells #[.int .i64 1,.int .u32 I,.bool false,.bool false,.bool B,.bool E,.bool S,.int .u8 D,.int .u8 V,.int .u32 A,.slice a n cap] 36)) #[.int .i64 1,.int .u32 I,.bool false,.bool false,.bool B,.bool E,.bool S,.int .u8 D,.int .u8 V,.int .u32 A,.slice none 0 0] 36).nb n1
 rw[World.size_alloc] at hx
 have M:=Lib.hid (((Nb.rfl.al _).al _).tr n1:Nb w w1)
 obtain⟨c0,c1,c2,c3,c4,c5,c6,c7,c8,c9,c10⟩:=hf.c11
 obtain⟨d0,d1,d2,d3,d4,d5,d6,d7,d8,d9,d10⟩:=hx.c11
 obtain⟨g0,g1,g2,g3,g4,g5,g6,g7,g8,g9,g10⟩:=hx.f11
 clear hf hx n1
 go_wp2
 all_goals go_ret
 all_goals refine⟨by first | (simp_all [okCl];done) | (simp_all [okCl];omega),?_⟩
 all_goals first
  | exact M.out
  | exact M.out.s2 (by omega) _ _ _ _
theorem refcheck5_cl_false_true (I:Int) (B E S:Bool) (D V A:Int) (a:Option Addr) (cap n:Nat) (w:World) (hL:n<=9223372036854775807) (hh:hasF 1 (n:Int)=true) (hi2:I < 536870912) :
    Calls Tryd.prog 28 #[.agg (Hd.cs ⟨1,I,true,false,B,E,S,D,V,A⟩ (.slice a n cap))] w fun e w'=>e = .returned (.int .i64 (if okCl I true false B E S D V A true then (0:Nat) else 2:Nat))/\Nb w w':=by
 have hCode:=Lib.hid (refcode_any 1 (n:Int))
 rw[show codeE 1 (n:Int)=0 by unfold codeE;rw[hh];rfl] at hCode
 generalize codeV 1 (n:Int)=cv at *
 clear hh
 simp only[Hd.cs]
 go_enter Tryd.func28,Tryd.ntmps28
 go_wp2_with fail
 refine (hCode.out _).mono ?_
 rintro e w1 ⟨rfl,n1⟩
 have hf:=((Blk.new w #[.int .i64 1,.int .u32 I,.bool true,.bool false,.bool B,.bool E,.bool S,.int .u8 D,.int .u8 V,.int .u32 A,.slice a n cap] 36).nb (Nb.rfl.al (.cells #[.int .i64 1,.int .u32 I,.bool true,.bool false,.bool B,.bool E,.bool S,.int .u8 D,.int .u8 V,.int .u32 A,.slice none 0 0] 36))).nb n1
 have hx:=(Blk.new (w.alloc (.cells #[.int .i64 1,.int .u32 I,.bool true,.bool false,.bool B,.bool E,.bool S,.int .u8 D,.int .u8 V,.int .u32 A,.slice a n cap] 36)) #[.int .i64 1,.int .u32 I,.bool true,.bool false,.bool B,.bool E,.bool S,.int .u8 D,.int .u8 V,.int .u32 A,.slice none 0 0] 36).nb n1
 rw[World.size_alloc] at hx
 have M:=Lib.hid (((Nb.rfl.al _).al _).tr n1:Nb w w1)
 obtain⟨c0,c1,c2,c3,c4,c5,c6,c7,c8,c9,c10⟩:=hf.c11
 obtain⟨d0,d1,d2,d3,d4,d5,d6,d7,d8,d9,d10⟩:=hx.c11
 obtain⟨g0,g1,g2,g3,g4,g5,g6,g7,g8,g9,g10⟩:=hx.f11
 clear hf hx n1
 go_wp2
 all_goals go_ret
 all_goals refine⟨by first | (simp_all [okCl];done) | (simp_all [okCl];omega),?_⟩
 all_goals first
  | exact M.out
  | exact M.out.s2 (by omega) _ _ _ _
theorem refcheck5_cl_true_false (I:Int) (B E S:Bool) (D V A:Int) (a:Option Addr) (cap:Nat) (w:World) (hh:hasF 1 ((0:Nat):Int)=true) (hi2:I < 536870912) (hi:I < 2048) :
    Calls Tryd.prog 28 #[.agg (Hd.cs ⟨1,I,false,true,B,E,S,D,V,A⟩ (.slice a 0 cap))] w fun e w'=>e = .returned (.int .i64 (if okCl I false true B E S D V A true then (0:Nat) else 2:Nat))/\Nb w w':=by
 have hCode:=Lib.hid (refcode_any 1 ((0:Nat):Int))
 rw[show codeE 1 ((0:Nat):Int)=0 by unfold codeE;rw[hh];rfl] at hCode
 generalize codeV 1 ((0:Nat):Int)=cv at *
 clear hh
 simp only[Hd.cs]
 go_enter Tryd.func28,Tryd.ntmps28
 go_wp2_with fail
 refine (hCode.out _).mono ?_
 rintro e w1 ⟨rfl,n1⟩
 have hf:=((Blk.new w #[.int .i64 1,.int .u32 I,.bool false,.bool true,.bool B,.bool E,.bool S,.int .u8 D,.int .u8 V,.int .u32 A,.slice a 0 cap] 36).nb (Nb.rfl.al (.cells #[.int .i64 1,.int .u32 I,.bool false,.bool true,.bool B,.bool E,.bool S,.int .u8 D,.int .u8 V,.int .u32 A,.slice none 0 0] 36))).nb n1
 have hx:=(Blk.new (w.alloc (.cells #[.int .i64 1,.int .u32 I,.bool false,.bool true,.bool B,.bool E,.bool S,.int .u8 D,.int .u8 V,.int .u32 A,.slice a 0 cap] 36)) #[.int .i64 1,.int .u32 I,.bool false,.bool true,.bool B,.bool E,.bool S,.int .u8 D,.int .u8 V,.int .u32 A,.slice none 0 0] 36).nb n1
 rw[World.size_alloc] at hx
 have M:=Lib.hid (((Nb.rfl.al _).al _).tr n1:Nb w w1)
 obtain⟨c0,c1,c2,c3,c4,c5,c6,c7,c8,c9,c10⟩:=hf.c11
 obtain⟨d0,d1,d2,d3,d4,d5,d6,d7,d8,d9,d10⟩:=hx.c11
 obtain⟨g0,g1,g2,g3,g4,g5,g6,g7,g8,g9,g10⟩:=hx.f11
 clear hf hx n1
 go_wp2
 all_goals go_ret
 all_goals refine⟨by first | (simp_all [okCl];done) | (simp_all [okCl];omega),?_⟩
 all_goals first
  | exact M.out
  | exact M.out.s2 (by omega) _ _ _ _
theorem refcheck5_cl_true_true (I:Int) (B E S:Bool) (D V A:Int) (a:Option Addr) (cap:Nat) (w:World) (hh:hasF 1 ((0:Nat):Int)=true) (hi2:I < 536870912) :
    Calls Tryd.prog 28 #[.agg (Hd.cs ⟨1,I,true,true,B,E,S,D,V,A⟩ (.slice a 0 cap))] w fun e w'=>e = .returned (.int .i64 (if okCl I true true B E S D V A true then (0:Nat) else 2:Nat))/\Nb w w':=by
 have hCode:=Lib.hid (refcode_any 1 ((0:Nat):Int))
 rw[show codeE 1 ((0:Nat):Int)=0 by unfold codeE;rw[hh];rfl] at hCode
 generalize codeV 1 ((0:Nat):Int)=cv at *
 clear hh
 simp only[Hd.cs]
 go_enter Tryd.func28,Tryd.ntmps28
 go_wp2_with fail
 refine (hCode.out _).mono ?_
 rintro e w1 ⟨rfl,n1⟩
 have hf:=((Blk.new w #[.int .i64 1,.int .u32 I,.bool true,.bool true,.bool B,.bool E,.bool S,.int .u8 D,.int .u8 V,.int .u32 A,.slice a 0 cap] 36).nb (Nb.rfl.al (.cells #[.int .i64 1,.int .u32 I,.bool true,.bool true,.bool B,.bool E,.bool S,.int .u8 D,.int .u8 V,.int .u32 A,.slice none 0 0] 36))).nb n1
 have hx:=(Blk.new (w.alloc (.cells #[.int .i64 1,.int .u32 I,.bool true,.bool true,.bool B,.bool E,.bool S,.int .u8 D,.int .u8 V,.int .u32 A,.slice a 0 cap] 36)) #[.int .i64 1,.int .u32 I,.bool true,.bool true,.bool B,.bool E,.bool S,.int .u8 D,.int .u8 V,.int .u32 A,.slice none 0 0] 36).nb n1
 rw[World.size_alloc] at hx
 have M:=Lib.hid (((Nb.rfl.al _).al _).tr n1:Nb w w1)
 obtain⟨c0,c1,c2,c3,c4,c5,c6,c7,c8,c9,c10⟩:=hf.c11
 obtain⟨d0,d1,d2,d3,d4,d5,d6,d7,d8,d9,d10⟩:=hx.c11
 obtain⟨g0,g1,g2,g3,g4,g5,g6,g7,g8,g9,g10⟩:=hx.f11
 clear hf hx n1
 go_wp2
 all_goals go_ret
 all_goals refine⟨by first | (simp_all [okCl];done) | (simp_all [okCl];omega),?_⟩
 all_goals first
  | exact M.out
  | exact M.out.s2 (by omega) _ _ _ _
theorem refcheck5_b1 (I:Int) (X R B E S:Bool) (D V A:Int) (a:Option Addr) (cap n:Nat) (w:World) (hL:n<=9223372036854775807) (hh:hasF 1 (n:Int)=true) (hb:R=true/\0 < n) :
    Calls Tryd.prog 28 #[.agg (Hd.cs ⟨1,I,X,R,B,E,S,D,V,A⟩ (.slice a n cap))] w fun e w'=>e = .returned (.int .i64 2)/\Nb w w':=by
 have hCode:=Lib.hid (refcode_any 1 (n:Int))
 rw[show codeE 1 (n:Int)=0 by unfold codeE;rw[hh];rfl] at hCode
 generalize codeV 1 (n:Int)=cv at *
 clear hh
 simp only[Hd.cs]
 obtain⟨rfl,hn⟩:=hb
 go_enter Tryd.func28,Tryd.ntmps28
 go_wp2_with fail
 refine (hCode.out _).mono ?_
 rintro e w1 ⟨rfl,n1⟩
 have hf:=((Blk.new w #[.int .i64 1,.int .u32 I,.bool X,.bool true,.bool B,.bool E,.bool S,.int .u8 D,.int .u8 V,.int .u32 A,.slice a n cap] 36).nb (Nb.rfl.al (.cells #[.int .i64 1,.int .u32 I,.bool X,.bool true,.bool B,.bool E,.bool S,.int .u8 D,.int .u8 V,.int .u32 A,.slice none 0 0] 36))).nb n1
 have M:=Lib.hid (((Nb.rfl.al _).al _).tr n1:Nb w w1)
 obtain⟨c0,c1,c2,c3,c4,c5,c6,c7,c8,c9,c10⟩:=hf.c11
 clear hf n1
 go_wp2
 all_goals go_ret
 all_goals exact⟨rfl,M.out⟩
theorem refcheck5_b2 (I:Int) (X R B E S:Bool) (D V A:Int) (a:Option Addr) (cap n:Nat) (w:World) (hL:n<=9223372036854775807) (hh:hasF 1 (n:Int)=true) (hb:(R=false\/n=0)/\X=false/\2048<=I) :
    Calls Tryd.prog 28 #[.agg (Hd.cs ⟨1,I,X,R,B,E,S,D,V,A⟩ (.slice a n cap))] w fun e w'=>e = .returned (.int .i64 2)/\Nb w w':=by
 have hCode:=Lib.hid (refcode_any 1 (n:Int))
 rw[show codeE 1 (n:Int)=0 by unfold codeE;rw[hh];rfl] at hCode
 generalize codeV 1 (n:Int)=cv at *
 clear hh
 simp only[Hd.cs]
 obtain⟨hr,rfl,hi⟩:=hb
 go_enter Tryd.func28,Tryd.ntmps28
 go_wp2_with fail
 refine (hCode.out _).mono ?_
 rintro e w1 ⟨rfl,n1⟩
 have hf:=((Blk.new w #[.int .i64 1,.int .u32 I,.bool false,.bool R,.bool B,.bool E,.bool S,.int .u8 D,.int .u8 V,.int .u32 A,.slice a n cap] 36).nb (Nb.rfl.al (.cells #[.int .i64 1,.int .u32 I,.bool false,.bool R,.bool B,.bool E,.bool S,.int .u8 D,.int .u8 V,.int .u32 A,.slice none 0 0] 36))).nb n1
 have M:=Lib.hid (((Nb.rfl.al _).al _).tr n1:Nb w w1)
 obtain⟨c0,c1,c2,c3,c4,c5,c6,c7,c8,c9,c10⟩:=hf.c11
 clear hf n1
 go_wp2
 all_goals go_ret
 all_goals exact⟨rfl,M.out⟩
theorem refcheck5_b3 (I:Int) (X R B E S:Bool) (D V A:Int) (a:Option Addr) (cap n:Nat) (w:World) (hL:n<=9223372036854775807) (hh:hasF 1 (n:Int)=true) (hb:536870912<=I) :
    Calls Tryd.prog 28 #[.agg (Hd.cs ⟨1,I,X,R,B,E,S,D,V,A⟩ (.slice a n cap))] w fun e w'=>e = .returned (.int .i64 2)/\Nb w w':=by
 have hCode:=Lib.hid (refcode_any 1 (n:Int))
 rw[show codeE 1 (n:Int)=0 by unfold codeE;rw[hh];rfl] at hCode
 generalize codeV 1 (n:Int)=cv at *
 clear hh
 simp only[Hd.cs]
 go_enter Tryd.func28,Tryd.ntmps28
 go_wp2_with fail
 refine (hCode.out _).mono ?_
 rintro e w1 ⟨rfl,n1⟩
 have hf:=((Blk.new w #[.int .i64 1,.int .u32 I,.bool X,.bool R,.bool B,.bool E,.bool S,.int .u8 D,.int .u8 V,.int .u32 A,.slice a n cap] 36).nb (Nb.rfl.al (.cells #[.int .i64 1,.int .u32 I,.bool X,.bool R,.bool B,.bool E,.bool S,.int .u8 D,.int .u8 V,.int .u32 A,.slice none 0 0] 36))).nb n1
 have M:=Lib.hid (((Nb.rfl.al _).al _).tr n1:Nb w w1)
 obtain⟨c0,c1,c2,c3,c4,c5,c6,c7,c8,c9,c10⟩:=hf.c11
 clear hf n1
 go_wp2
 all_goals go_ret
 all_goals exact⟨rfl,M.out⟩
theorem refcheck5_any (f:Hd) (a:Option Addr) (cap:Nat) (l:List Nat) (w:World) (hL:l.length<=9223372036854775807) :
    Calls Tryd.prog 28 #[.agg (f.cs (.slice a l.length cap))] w fun e w'=>e = .returned (.int .i64 (checkN f l:Nat))/\Nb w w':=by
 cases hh:hasF f.K (l.length:Int) with
 | false =>
   rw[show checkN f l=2 by simp[checkN,okF,hh]]
   exact refcheck5_no f a cap l w hL hh
 | true =>
   obtain⟨K,I,X,R,B,E,S,D,V,A⟩:=f
   simp only at hh
   rcases hasF_kind hh with rfl | rfl | rfl
   ·have e:checkN ⟨1,I,X,R,B,E,S,D,V,A⟩ l=if okCl I X R B E S D V A (decide (l.length=0)) then 0 else 2:=by simp only[checkN,okF_cl,hh,Bool.true_and]
    rw[e]
    clear e
    generalize l.length=n at *
    by_cases h3:536870912<=I
    ·rw[show okCl I X R B E S D V A (decide (n=0))=false by simp[okCl,show ¬I < 536870912 by omega]]
     exact refcheck5_b3 I X R B E S D V A a cap n w hL hh h3
    by_cases h1:R=true/\0 < n
    ·rw[show okCl I X R B E S D V A (decide (n=0))=false by simp[okCl,h1.1,show ¬n=0 by omega]]
     exact refcheck5_b1 I X R B E S D V A a cap n w hL hh h1
    have hr:R=false\/n=0:=by
     cases R
     ·exact .inl rfl
     ·exact .inr (Nat.eq_zero_of_not_pos fun h=>h1 ⟨rfl,h⟩)
    by_cases h2:X=false/\2048<=I
    ·rw[show okCl I X R B E S D V A (decide (n=0))=false by simp[okCl,h2.1,show ¬I < 2048 by omega]]
     exact refcheck5_b2 I X R B E S D V A a cap n w hL hh ⟨hr,h2.1,h2.2⟩
    have h3':I < 536870912:=by omega
    cases R
    ·rw[show okCl I X false B E S D V A (decide (n=0))=okCl I X false B E S D V A true by simp[okCl]]
     cases X
     ·exact refcheck5_cl_false_false I B E S D V A a cap n w hL hh h3' (by false_or_by_contra;exact h2 ⟨rfl,by omega⟩)
     ·exact refcheck5_cl_false_true I B E S D V A a cap n w hL hh h3'
    ·obtain rfl:n=0:=by rcases hr with h | h;cases h;exact h
     cases X
     ·exact refcheck5_cl_true_false I B E S D V A a cap w hh h3' (by false_or_by_contra;exact h2 ⟨rfl,by omega⟩)
     ·exact refcheck5_cl_true_true I B E S D V A a cap w hh h3'
   ·rw[show checkN ⟨2,I,X,R,B,E,S,D,V,A⟩ l=if okFd I X R S D V A then 0 else 2 by simp only[checkN,okF_fd,hh,Bool.true_and]]
    exact refcheck5_fd I X R B E S D V A a cap l w hL hh
   ·rw[show checkN ⟨3,I,X,R,B,E,S,D,V,A⟩ l=if okXl I X R B E then 0 else 2 by simp only[checkN,okF_xl,hh,Bool.true_and]]
    exact refcheck5_xl I X R B E S D V A a cap l w hL hh
end Go.Proofs.YtlmbggmamemmjaaDoor
namespace Go.Proofs.YtlmbggmamemmjaaDoor
set_option linter.unusedVariables false
set_option linter.unusedSimpArgs false
open Go.RowKit
theorem Bs.none_len' {w:World} {cap:Nat} {l:List Nat} (h:Bs w none cap l):l.length=0:=by
 cases l with
 | nil=>rfl
 | cons x l=>obtain⟨_,_,h,_⟩:=h.hcells (by simp);cases h
theorem clone_any (a:Option Addr) (cap:Nat) (l:List Nat) (w:World) (h:Bs w a cap l) (hn:a=none->cap=0) (hl:l.length<=140737488355328) :
    Calls Tryd.prog 34 #[.slice a l.length cap] w fun e w'=>(∃ a' c',e = .returned (.slice a' l.length c')/\Fresh w w' (.slice a' l.length c') l)/\Nb w w':=by
 have H:=Lib.hid h
 have hL:=h.len
 have hN:=Lib.hid hn
 cases a with
 | none =>
   have h0:=h.none_len'
   obtain rfl:l=[]:=List.length_eq_zero_iff.1 h0
   obtain rfl:=hn rfl
   clear h h0 hn hl hL
   have he:∀ w:World,(binOp .eql 34 (.slice none 0 0) (.slice none 0 0)).run Tryd.prog w = .ok (.bool true) w:=fun _=>rfl
   go_enter Tryd.func34,Tryd.ntmps34
   go_wp2
   go_ret
   exact⟨⟨none,0,rfl,OwnB.nil _,by simp[Value.ownBlock]⟩,Nb.rfl⟩
 | some ad =>
   clear h hn
   have he:∀ w:World,(binOp .eql 34 (.slice (some ad) l.length cap) (.slice none 0 0)).run Tryd.prog w = .ok (.bool false) w:=fun _=>rfl
   go_enter Tryd.func34,Tryd.ntmps34
   go_wp2_with (at_builtin;refine wpList_appB _ rfl (.tmp 5) (.tmp 6) rfl _ [] rfl (OwnB.fresh0 _) (some ad) cap l l.length rfl rfl (H.out.below (Nb.rfl.al _)) (by simp) (by simpa using hl) ?_)
   intro v1 w1 ho hk hf
   have fr:Fresh w w1 v1 l:=⟨ho,fun g hg=>by
    rcases hf g hg with h | h
    ·simp[Value.ownBlock] at h
     omega
    ·first | omega | (simp at h;omega)⟩
   have nb1:Nb w w1:=((Nb.rfl.al _)).trans (hk.toBelow (by simp) (by intro g hg;simp[Value.ownBlock] at hg;omega))
   obtain⟨a1,c1,rfl,_⟩:=ho.bs
   have FR:=Lib.hid fr
   clear fr ho hk hf
   go_wp2
   go_ret
   exact⟨⟨a1,c1,rfl,FR.out⟩,nb1⟩
def put11 (w:World) (b:Nat) (v0 v1 v2 v3 v4 v5 v6 v7 v8 v9 v10:Value):World:=((((((((((w.setCell ⟨b,0,none⟩ v0).setCell ⟨b,1,none⟩ v1).setCell ⟨b,2,none⟩ v2).setCell ⟨b,3,none⟩ v3).setCell ⟨b,4,none⟩ v4).setCell ⟨b,5,none⟩ v5).setCell ⟨b,6,none⟩ v6).setCell ⟨b,7,none⟩ v7).setCell ⟨b,8,none⟩ v8).setCell ⟨b,9,none⟩ v9).setCell ⟨b,10,none⟩ v10
theorem put11_blk {w:World} {b:Nat} {u0 u1 u2 u3 u4 u5 u6 u7 u8 u9 u10 v0 v1 v2 v3 v4 v5 v6 v7 v8 v9 v10:Value} {t:TypeId} (h:Blk w b #[u0,u1,u2,u3,u4,u5,u6,u7,u8,u9,u10] t) :
    Blk (put11 w b v0 v1 v2 v3 v4 v5 v6 v7 v8 v9 v10) b #[v0,v1,v2,v3,v4,v5,v6,v7,v8,v9,v10] t:=by
 have:=((((((((((h.set 0 v0).set 1 v1).set 2 v2).set 3 v3).set 4 v4).set 5 v5).set 6 v6).set 7 v7).set 8 v8).set 9 v9).set 10 v10
 simpa [put11] using this
theorem put11_kp (w:World) (b:Nat) (v0 v1 v2 v3 v4 v5 v6 v7 v8 v9 v10:Value):Kp (fun x=>x=b) w (put11 w b v0 v1 v2 v3 v4 v5 v6 v7 v8 v9 v10):=by
 unfold put11
 exact ((((((((((Kp.set (F:=fun x=>x=b) rfl).tr (Kp.set (F:=fun x=>x=b) rfl) (fun _ h => .inl h)).tr (Kp.set (F:=fun x=>x=b) rfl) (fun _ h => .inl h)).tr (Kp.set (F:=fun x=>x=b) rfl) (fun _ h => .inl h)).tr (Kp.set (F:=fun x=>x=b) rfl) (fun _ h => .inl h)).tr (Kp.set (F:=fun x=>x=b) rfl) (fun _ h => .inl h)).tr (Kp.set (F:=fun x=>x=b) rfl) (fun _ h => .inl h)).tr (Kp.set (F:=fun x=>x=b) rfl) (fun _ h => .inl h)).tr (Kp.set (F:=fun x=>x=b) rfl) (fun _ h => .inl h)).tr (Kp.set (F:=fun x=>x=b) rfl) (fun _ h => .inl h)).tr (Kp.set (F:=fun x=>x=b) rfl) (fun _ h => .inl h)
theorem copy_any (f:Hd) (a:Option Addr) (cap:Nat) (l:List Nat) (w:World) (h:Bs w a cap l) (hn:a=none->cap=0) (hl:l.length<=140737488355328) :
    Calls Tryd.prog 24 #[.agg (f.cs (.slice a l.length cap))] w fun e w'=>(∃ a' c',e = .returned (.agg (f.cs (.slice a' l.length c')))/\Fresh w w' (.slice a' l.length c') l)/\Nb w w':=by
 have H:=Lib.hid h
 have hL:=h.len
 have hN:=Lib.hid hn
 obtain⟨K,I,X,R,B,E,S,D,V,A⟩:=f
 simp only[Hd.cs]
 clear h hn
 go_enter Tryd.func24,Tryd.ntmps24
 go_wp2_with fail
 refine (clone_any a cap l _ (H.out.below ((Nb.rfl.al _).al _)) hN.out hl).mono ?_
 rintro e w1 ⟨⟨a1,ca,rfl,hfr⟩,n1⟩
 have hf:=((Blk.new w #[.int .i64 K,.int .u32 I,.bool X,.bool R,.bool B,.bool E,.bool S,.int .u8 D,.int .u8 V,.int .u32 A,.slice a l.length cap] 36).nb (Nb.rfl.al (.cells #[.int .i64 0,.int .u32 0,.bool false,.bool false,.bool false,.bool false,.bool false,.int .u8 0,.int .u8 0,.int .u32 0,.slice none 0 0] 36))).nb n1
 have hx:=(Blk.new (w.alloc (.cells #[.int .i64 K,.int .u32 I,.bool X,.bool R,.bool B,.bool E,.bool S,.int .u8 D,.int .u8 V,.int .u32 A,.slice a l.length cap] 36)) #[.int .i64 0,.int .u32 0,.bool false,.bool false,.bool false,.bool false,.bool false,.int .u8 0,.int .u8 0,.int .u32 0,.slice none 0 0] 36).nb n1
 rw[World.size_alloc] at hx
 have M:=Lib.hid (((Nb.rfl.al _).al _).tr n1:Nb w w1)
 obtain⟨c0,c1,c2,c3,c4,c5,c6,c7,c8,c9,c10⟩:=hf.c11
 obtain⟨y0,y1,y2,y3,y4,y5,y6,y7,y8,y9,y10⟩:=hf.f11
 obtain⟨d0,d1,d2,d3,d4,d5,d6,d7,d8,d9,d10⟩:=hx.c11
 obtain⟨g0,g1,g2,g3,g4,g5,g6,g7,g8,g9,g10⟩:=hx.f11
 have hs1:w1.heap.size=w1.heap.size:=rfl
 have hB:=put11_blk (v0 := .int .i64 K) (v1 := .int .u32 I) (v2 := .bool X) (v3 := .bool R) (v4 := .bool B) (v5 := .bool E) (v6 := .bool S) (v7 := .int .u8 D) (v8 := .int .u8 V) (v9 := .int .u32 A) (v10 := .slice a1 l.length ca) (hx.other (p:=⟨w.heap.size,10,none⟩) (by simp) (.slice a1 l.length ca))
 have hk:Kp (fun x=>x=w.heap.size\/x=w.heap.size+1) w1 (put11 (w1.setCell ⟨w.heap.size,10,none⟩ (.slice a1 l.length ca)) (w.heap.size+1) (.int .i64 K) (.int .u32 I) (.bool X) (.bool R) (.bool B) (.bool E) (.bool S) (.int .u8 D) (.int .u8 V) (.int .u32 A) (.slice a1 l.length ca)) :=
  (Kp.set (F:=fun x=>x=w.heap.size\/x=w.heap.size+1) (.inl rfl)).tr ((put11_kp _ _ _ _ _ _ _ _ _ _ _ _ _).mono (F':=fun x=>x=w.heap.size\/x=w.heap.size+1) (fun _ _ h => .inr h)) (fun _ h => .inl h)
 have hbel:Nb w (put11 (w1.setCell ⟨w.heap.size,10,none⟩ (.slice a1 l.length ca)) (w.heap.size+1) (.int .i64 K) (.int .u32 I) (.bool X) (.bool R) (.bool B) (.bool E) (.bool S) (.int .u8 D) (.int .u8 V) (.int .u32 A) (.slice a1 l.length ca)):=M.out.trans (hk.toBelow M.out.size (fun k hk=>by omega))
 have hfr2:Fresh w (put11 (w1.setCell ⟨w.heap.size,10,none⟩ (.slice a1 l.length ca)) (w.heap.size+1) (.int .i64 K) (.int .u32 I) (.bool X) (.bool R) (.bool B) (.bool E) (.bool S) (.int .u8 D) (.int .u8 V) (.int .u32 A) (.slice a1 l.length ca)) (.slice a1 l.length ca) l:=⟨hfr.1.keep hk (fun g hg h=>by
     have:=hfr.2 g hg
     simp at this
     omega),fun g hg=>by
     have:=hfr.2 g hg
     simp at this
     omega⟩
 have HB:=Lib.hid hB
 have HW:=Lib.hid hbel
 have FR:=Lib.hid hfr2
 clear hf hx n1 hfr hB hbel hfr2 hk hs1
 go_wp2
 change bodyPost _ _ _ _ _ (put11 (w1.setCell ⟨w.heap.size,10,none⟩ (.slice a1 l.length ca)) (w.heap.size+1) (.int .i64 K) (.int .u32 I) (.bool X) (.bool R) (.bool B) (.bool E) (.bool S) (.int .u8 D) (.int .u8 V) (.int .u32 A) (.slice a1 l.length ca))
 generalize put11 (w1.setCell ⟨w.heap.size,10,none⟩ (.slice a1 l.length ca)) (w.heap.size+1) (.int .i64 K) (.int .u32 I) (.bool X) (.bool R) (.bool B) (.bool E) (.bool S) (.int .u8 D) (.int .u8 V) (.int .u32 A) (.slice a1 l.length ca)=W at *
 obtain⟨e0,e1,e2,e3,e4,e5,e6,e7,e8,e9,e10⟩:=HB.out.c11
 exact bodyPost_ret (v := .agg (Hd.cs ⟨K,I,X,R,B,E,S,D,V,A⟩ (.slice a1 l.length ca))) (by simp[results,Tryd.results24,go_sem,Hd.cs,e0,e1,e2,e3,e4,e5,e6,e7,e8,e9,e10]) rfl ⟨⟨_,_,rfl,FR.out⟩,HW.out⟩
end Go.Proofs.YtlmbggmamemmjaaDoor
namespace Go.Proofs.YtlmbggmamemmjaaDoor
set_option linter.unusedVariables false
set_option linter.unusedSimpArgs false
open Go.RowKit
theorem clone_all (a:Option Addr) (cap:Nat) (l:List Nat) (w:World) (h:Bs w a cap l) (hl:l.length<=140737488355328) :
    Calls Tryd.prog 34 #[.slice a l.length cap] w fun e w'=>(∃ a' c',e = .returned (.slice a' l.length c')/\Fresh w w' (.slice a' l.length c') l)/\Nb w w':=by
 have H:=Lib.hid h
 have hL:=h.len
 cases a with
 | none =>
   have h0:=h.none_len'
   obtain rfl:l=[]:=List.length_eq_zero_iff.1 h0
   clear h h0 hl hL
   have he:∀ w:World,(binOp .eql 34 (.slice none 0 cap) (.slice none 0 0)).run Tryd.prog w = .ok (.bool true) w:=fun _=>rfl
   go_enter Tryd.func34,Tryd.ntmps34
   go_wp2
   go_ret
   exact⟨⟨none,0,rfl,OwnB.nil _,by simp[Value.ownBlock]⟩,Nb.rfl⟩
 | some ad =>
   clear h
   have he:∀ w:World,(binOp .eql 34 (.slice (some ad) l.length cap) (.slice none 0 0)).run Tryd.prog w = .ok (.bool false) w:=fun _=>rfl
   go_enter Tryd.func34,Tryd.ntmps34
   go_wp2_with (at_builtin;refine wpList_appB _ rfl (.tmp 5) (.tmp 6) rfl _ [] rfl (OwnB.fresh0 _) (some ad) cap l l.length rfl rfl (H.out.below (Nb.rfl.al _)) (by simp) (by simpa using hl) ?_)
   intro v1 w1 ho hk hf
   have fr:Fresh w w1 v1 l:=⟨ho,fun g hg=>by
    rcases hf g hg with h | h
    ·simp[Value.ownBlock] at h
     omega
    ·first | omega | (simp at h;omega)⟩
   have nb1:Nb w w1:=((Nb.rfl.al _)).trans (hk.toBelow (by simp) (by intro g hg;simp[Value.ownBlock] at hg;omega))
   obtain⟨a1,c1,rfl,_⟩:=ho.bs
   have FR:=Lib.hid fr
   clear fr ho hk hf
   go_wp2
   go_ret
   exact⟨⟨a1,c1,rfl,FR.out⟩,nb1⟩
theorem copy_all (f:Hd) (a:Option Addr) (cap:Nat) (l:List Nat) (w:World) (h:Bs w a cap l) (hl:l.length<=140737488355328) :
    Calls Tryd.prog 24 #[.agg (f.cs (.slice a l.length cap))] w fun e w'=>(∃ a' c',e = .returned (.agg (f.cs (.slice a' l.length c')))/\Fresh w w' (.slice a' l.length c') l)/\Nb w w':=by
 have H:=Lib.hid h
 have hL:=h.len
 obtain⟨K,I,X,R,B,E,S,D,V,A⟩:=f
 simp only[Hd.cs]
 clear h
 go_enter Tryd.func24,Tryd.ntmps24
 go_wp2_with fail
 refine (clone_all a cap l _ (H.out.below ((Nb.rfl.al _).al _)) hl).mono ?_
 rintro e w1 ⟨⟨a1,ca,rfl,hfr⟩,n1⟩
 have hf:=((Blk.new w #[.int .i64 K,.int .u32 I,.bool X,.bool R,.bool B,.bool E,.bool S,.int .u8 D,.int .u8 V,.int .u32 A,.slice a l.length cap] 36).nb (Nb.rfl.al (.cells #[.int .i64 0,.int .u32 0,.bool false,.bool false,.bool false,.bool false,.bool false,.int .u8 0,.int .u8 0,.int .u32 0,.slice none 0 0] 36))).nb n1
 have hx:=(Blk.new (w.alloc (.cells #[.int .i64 K,.int .u32 I,.bool X,.bool R,.bool B,.bool E,.bool S,.int .u8 D,.int .u8 V,.int .u32 A,.slice a l.length cap] 36)) #[.int .i64 0,.int .u32 0,.bool false,.bool false,.bool false,.bool false,.bool false,.int .u8 0,.int .u8 0,.int .u32 0,.slice none 0 0] 36).nb n1
 rw[World.size_alloc] at hx
 have M:=Lib.hid (((Nb.rfl.al _).al _).tr n1:Nb w w1)
 obtain⟨c0,c1,c2,c3,c4,c5,c6,c7,c8,c9,c10⟩:=hf.c11
 obtain⟨y0,y1,y2,y3,y4,y5,y6,y7,y8,y9,y10⟩:=hf.f11
 obtain⟨d0,d1,d2,d3,d4,d5,d6,d7,d8,d9,d10⟩:=hx.c11
 obtain⟨g0,g1,g2,g3,g4,g5,g6,g7,g8,g9,g10⟩:=hx.f11
 have hs1:w1.heap.size=w1.heap.size:=rfl
 have hB:=put11_blk (v0 := .int .i64 K) (v1 := .int .u32 I) (v2 := .bool X) (v3 := .bool R) (v4 := .bool B) (v5 := .bool E) (v6 := .bool S) (v7 := .int .u8 D) (v8 := .int .u8 V) (v9 := .int .u32 A) (v10 := .slice a1 l.length ca) (hx.other (p:=⟨w.heap.size,10,none⟩) (by simp) (.slice a1 l.length ca))
 have hk:Kp (fun x=>x=w.heap.size\/x=w.heap.size+1) w1 (put11 (w1.setCell ⟨w.heap.size,10,none⟩ (.slice a1 l.length ca)) (w.heap.size+1) (.int .i64 K) (.int .u32 I) (.bool X) (.bool R) (.bool B) (.bool E) (.bool S) (.int .u8 D) (.int .u8 V) (.int .u32 A) (.slice a1 l.length ca)) :=
  (Kp.set (F:=fun x=>x=w.heap.size\/x=w.heap.size+1) (.inl rfl)).tr ((put11_kp _ _ _ _ _ _ _ _ _ _ _ _ _).mono (F':=fun x=>x=w.heap.size\/x=w.heap.size+1) (fun _ _ h => .inr h)) (fun _ h => .inl h)
 have hbel:Nb w (put11 (w1.setCell ⟨w.heap.size,10,none⟩ (.slice a1 l.length ca)) (w.heap.size+1) (.int .i64 K) (.int .u32 I) (.bool X) (.bool R) (.bool B) (.bool E) (.bool S) (.int .u8 D) (.int .u8 V) (.int .u32 A) (.slice a1 l.length ca)):=M.out.trans (hk.toBelow M.out.size (fun k hk=>by omega))
 have hfr2:Fresh w (put11 (w1.setCell ⟨w.heap.size,10,none⟩ (.slice a1 l.length ca)) (w.heap.size+1) (.int .i64 K) (.int .u32 I) (.bool X) (.bool R) (.bool B) (.bool E) (.bool S) (.int .u8 D) (.int .u8 V) (.int .u32 A) (.slice a1 l.length ca)) (.slice a1 l.length ca) l:=⟨hfr.1.keep hk (fun g hg h=>by
     have:=hfr.2 g hg
     simp at this
     omega),fun g hg=>by
     have:=hfr.2 g hg
     simp at this
     omega⟩
 have HB:=Lib.hid hB
 have HW:=Lib.hid hbel
 have FR:=Lib.hid hfr2
 clear hf hx n1 hfr hB hbel hfr2 hk hs1
 go_wp2
 change bodyPost _ _ _ _ _ (put11 (w1.setCell ⟨w.heap.size,10,none⟩ (.slice a1 l.length ca)) (w.heap.size+1) (.int .i64 K) (.int .u32 I) (.bool X) (.bool R) (.bool B) (.bool E) (.bool S) (.int .u8 D) (.int .u8 V) (.int .u32 A) (.slice a1 l.length ca))
 generalize put11 (w1.setCell ⟨w.heap.size,10,none⟩ (.slice a1 l.length ca)) (w.heap.size+1) (.int .i64 K) (.int .u32 I) (.bool X) (.bool R) (.bool B) (.bool E) (.bool S) (.int .u8 D) (.int .u8 V) (.int .u32 A) (.slice a1 l.length ca)=W at *
 obtain⟨e0,e1,e2,e3,e4,e5,e6,e7,e8,e9,e10⟩:=HB.out.c11
 exact bodyPost_ret (v := .agg (Hd.cs ⟨K,I,X,R,B,E,S,D,V,A⟩ (.slice a1 l.length ca))) (by simp[results,Tryd.results24,go_sem,Hd.cs,e0,e1,e2,e3,e4,e5,e6,e7,e8,e9,e10]) rfl ⟨⟨_,_,rfl,FR.out⟩,HW.out⟩
end Go.Proofs.YtlmbggmamemmjaaDoor
