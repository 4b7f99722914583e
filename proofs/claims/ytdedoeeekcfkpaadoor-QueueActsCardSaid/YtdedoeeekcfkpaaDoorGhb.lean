/- What waits in a heap, in memory: which is ahead of which, two exchanged, the last one taken, one more. Condition: at most a thousand. What waits in a heap, in memory: which is ahead of which, two exchanged. Condition: at most a thousand. What waits in a heap, in memory: the last one taken, one more. Condition: at most a thousand. What waits in a heap: container/heap's down and up over it. Condition: at most a thousand. What waits in a heap: container/heap's Push, Pop and Remove over it. Condition: at most a thousand. -/
import Derived.Test.YtdedoeeekcfkpaaDoorGha
import Derived.Deep.RegionLawGrows
import Derived.OwnWalk
set_option maxHeartbeats 8000000
set_option maxRecDepth 100000
namespace Go.Proofs.YtdedoeeekcfkpaaDoor
set_option linter.unusedVariables false
set_option linter.unusedSimpArgs false
open Go.RowKit Go.Sort
theorem Nb.grow (w:World) (os:Array Obj):Nb w (Go.Sort.grow w os):=⟨Eq.refl _,Eq.refl _,Eq.refl _,by simp,fun k hk=>by simp[Go.Sort.grow,Array.getElem?_append_left hk]⟩
theorem hcmpNE_any (p q:It × Value) (w:World) :
    Calls Tryd.prog 32 #[.agg (enC p).toArray,.agg (enC q).toArray] w fun e w'=>e = .returned (.int .i64 (cmpG (kpE p) (kpE q)))/\Nb w w' :=
 (hcmpE_any p q w).mono fun e w' ⟨h,n,os,hw⟩=>⟨h,by rw[hw];exact (Nb.drewN w n).tr (Nb.grow _ os)⟩
theorem RwE.at {w:World} {g cap:Nat} {l:List (It × Value)} (h:RwE w g cap l) {j:Nat} (hj:j < l.length) {xn:Nat} {xK xI xD xV xA:Int} {xX xR xB xE xS:Bool} {xl:List Nat} {xv:Value} (hp:l.getD j dR=⟨⟨xn,⟨xK,xI,xX,xR,xB,xE,xS,xD,xV,xA⟩,xl⟩,xv⟩) :
    (w.cell? ⟨g,j*13,none⟩=some (.int .u64 ((keyF ⟨xK,xI,xX,xR,xB,xE,xS,xD,xV,xA⟩:Nat):Int))/\w.cell? ⟨g,j*13+1,none⟩=some (.int .i64 ((xn:Nat):Int))/\w.cell? ⟨g,j*13+2,none⟩=some (.int .i64 xK)/\w.cell? ⟨g,j*13+3,none⟩=some (.int .u32 xI)/\w.cell? ⟨g,j*13+4,none⟩=some (.bool xX)/\w.cell? ⟨g,j*13+5,none⟩=some (.bool xR)/\w.cell? ⟨g,j*13+6,none⟩=some (.bool xB)/\w.cell? ⟨g,j*13+7,none⟩=some (.bool xE)/\w.cell? ⟨g,j*13+8,none⟩=some (.bool xS)/\w.cell? ⟨g,j*13+9,none⟩=some (.int .u8 xD)/\w.cell? ⟨g,j*13+10,none⟩=some (.int .u8 xV)/\w.cell? ⟨g,j*13+11,none⟩=some (.int .u32 xA)/\w.cell? ⟨g,j*13+12,none⟩=some xv)/\(w.frozen? ⟨g,j*13,none⟩=false/\w.frozen? ⟨g,j*13+1,none⟩=false/\w.frozen? ⟨g,j*13+2,none⟩=false/\w.frozen? ⟨g,j*13+3,none⟩=false/\w.frozen? ⟨g,j*13+4,none⟩=false/\w.frozen? ⟨g,j*13+5,none⟩=false/\w.frozen? ⟨g,j*13+6,none⟩=false/\w.frozen? ⟨g,j*13+7,none⟩=false/\w.frozen? ⟨g,j*13+8,none⟩=false/\w.frozen? ⟨g,j*13+9,none⟩=false/\w.frozen? ⟨g,j*13+10,none⟩=false/\w.frozen? ⟨g,j*13+11,none⟩=false/\w.frozen? ⟨g,j*13+12,none⟩=false):=by
 have hc:=fun i u (hu:(enC ⟨⟨xn,⟨xK,xI,xX,xR,xB,xE,xS,xD,xV,xA⟩,xl⟩,xv⟩)[i]? = some u)=>h.cell hj (i:=i) (u:=u) (by rw[hp];exact hu)
 exact⟨⟨(hc 0 _ rfl).1,(hc 1 _ rfl).1,(hc 2 _ rfl).1,(hc 3 _ rfl).1,(hc 4 _ rfl).1,(hc 5 _ rfl).1,(hc 6 _ rfl).1,(hc 7 _ rfl).1,(hc 8 _ rfl).1,(hc 9 _ rfl).1,(hc 10 _ rfl).1,(hc 11 _ rfl).1,(hc 12 _ rfl).1⟩,(hc 0 _ rfl).2,(hc 1 _ rfl).2,(hc 2 _ rfl).2,(hc 3 _ rfl).2,(hc 4 _ rfl).2,(hc 5 _ rfl).2,(hc 6 _ rfl).2,(hc 7 _ rfl).2,(hc 8 _ rfl).2,(hc 9 _ rfl).2,(hc 10 _ rfl).2,(hc 11 _ rfl).2,(hc 12 _ rfl).2⟩
def SlE (l:List (It × Value)):Prop:=∀ p∈l,∃ a n k,p.2 = .slice a n k
theorem SlE.at {l:List (It × Value)} (h:SlE l) {j:Nat} (hj:j < l.length) {xn:Nat} {xK xI xD xV xA:Int} {xX xR xB xE xS:Bool} {xl:List Nat} {xv:Value} (hp:l.getD j dR=⟨⟨xn,⟨xK,xI,xX,xR,xB,xE,xS,xD,xV,xA⟩,xl⟩,xv⟩):∃ a n k,xv = .slice a n k:=by
 have:=h (l.getD j dR) (by rw[show l.getD j dR=l[j] by simp[List.getD,hj]];exact List.getElem_mem hj)
 rw[hp] at this
 exact this
theorem swaprawE (R g cap n i j:Nat) (xk xn xK xI xD xV xA:Int) (xX xR xB xE xS:Bool) (xa:Option Addr) (xl xc:Nat) (yk yn yK yI yD yV yA:Int) (yX yR yB yE yS:Bool) (ya:Option Addr) (yl yc:Nat) (w:World)
    (hR:w.cell? ⟨R,2,none⟩=some (.slice (some ⟨g,0,none⟩) n cap)) (hne:¬R=g) (hi:i < n) (hj:j < n) (hn:n<=1000) (hij:¬i=j)
    (ci0:w.cell? ⟨g,i*13,none⟩=some (.int .u64 xk)) (fi0:w.frozen? ⟨g,i*13,none⟩=false)
    (ci1:w.cell? ⟨g,i*13+1,none⟩=some (.int .i64 xn)) (fi1:w.frozen? ⟨g,i*13+1,none⟩=false)
    (ci2:w.cell? ⟨g,i*13+2,none⟩=some (.int .i64 xK)) (fi2:w.frozen? ⟨g,i*13+2,none⟩=false)
    (ci3:w.cell? ⟨g,i*13+3,none⟩=some (.int .u32 xI)) (fi3:w.frozen? ⟨g,i*13+3,none⟩=false)
    (ci4:w.cell? ⟨g,i*13+4,none⟩=some (.bool xX)) (fi4:w.frozen? ⟨g,i*13+4,none⟩=false)
    (ci5:w.cell? ⟨g,i*13+5,none⟩=some (.bool xR)) (fi5:w.frozen? ⟨g,i*13+5,none⟩=false)
    (ci6:w.cell? ⟨g,i*13+6,none⟩=some (.bool xB)) (fi6:w.frozen? ⟨g,i*13+6,none⟩=false)
    (ci7:w.cell? ⟨g,i*13+7,none⟩=some (.bool xE)) (fi7:w.frozen? ⟨g,i*13+7,none⟩=false)
    (ci8:w.cell? ⟨g,i*13+8,none⟩=some (.bool xS)) (fi8:w.frozen? ⟨g,i*13+8,none⟩=false)
    (ci9:w.cell? ⟨g,i*13+9,none⟩=some (.int .u8 xD)) (fi9:w.frozen? ⟨g,i*13+9,none⟩=false)
    (ci10:w.cell? ⟨g,i*13+10,none⟩=some (.int .u8 xV)) (fi10:w.frozen? ⟨g,i*13+10,none⟩=false)
    (ci11:w.cell? ⟨g,i*13+11,none⟩=some (.int .u32 xA)) (fi11:w.frozen? ⟨g,i*13+11,none⟩=false)
    (ci12:w.cell? ⟨g,i*13+12,none⟩=some (.slice xa xl xc)) (fi12:w.frozen? ⟨g,i*13+12,none⟩=false)
    (cj0:w.cell? ⟨g,j*13,none⟩=some (.int .u64 yk)) (fj0:w.frozen? ⟨g,j*13,none⟩=false)
    (cj1:w.cell? ⟨g,j*13+1,none⟩=some (.int .i64 yn)) (fj1:w.frozen? ⟨g,j*13+1,none⟩=false)
    (cj2:w.cell? ⟨g,j*13+2,none⟩=some (.int .i64 yK)) (fj2:w.frozen? ⟨g,j*13+2,none⟩=false)
    (cj3:w.cell? ⟨g,j*13+3,none⟩=some (.int .u32 yI)) (fj3:w.frozen? ⟨g,j*13+3,none⟩=false)
    (cj4:w.cell? ⟨g,j*13+4,none⟩=some (.bool yX)) (fj4:w.frozen? ⟨g,j*13+4,none⟩=false)
    (cj5:w.cell? ⟨g,j*13+5,none⟩=some (.bool yR)) (fj5:w.frozen? ⟨g,j*13+5,none⟩=false)
    (cj6:w.cell? ⟨g,j*13+6,none⟩=some (.bool yB)) (fj6:w.frozen? ⟨g,j*13+6,none⟩=false)
    (cj7:w.cell? ⟨g,j*13+7,none⟩=some (.bool yE)) (fj7:w.frozen? ⟨g,j*13+7,none⟩=false)
    (cj8:w.cell? ⟨g,j*13+8,none⟩=some (.bool yS)) (fj8:w.frozen? ⟨g,j*13+8,none⟩=false)
    (cj9:w.cell? ⟨g,j*13+9,none⟩=some (.int .u8 yD)) (fj9:w.frozen? ⟨g,j*13+9,none⟩=false)
    (cj10:w.cell? ⟨g,j*13+10,none⟩=some (.int .u8 yV)) (fj10:w.frozen? ⟨g,j*13+10,none⟩=false)
    (cj11:w.cell? ⟨g,j*13+11,none⟩=some (.int .u32 yA)) (fj11:w.frozen? ⟨g,j*13+11,none⟩=false)
    (cj12:w.cell? ⟨g,j*13+12,none⟩=some (.slice ya yl yc)) (fj12:w.frozen? ⟨g,j*13+12,none⟩=false) :
    Calls Tryd.prog 124 #[.pointer (some ⟨R,2,none⟩),.int .i64 (i:Nat),.int .i64 (j:Nat)] w fun e w'=>e = .returned (.tuple #[])/\w'=((w.setCells g (i*13) [(.int .u64 yk),(.int .i64 yn),(.int .i64 yK),(.int .u32 yI),(.bool yX),(.bool yR),(.bool yB),(.bool yE),(.bool yS),(.int .u8 yD),(.int .u8 yV),(.int .u32 yA),(.slice ya yl yc)]).setCells g (j*13) [(.int .u64 xk),(.int .i64 xn),(.int .i64 xK),(.int .u32 xI),(.bool xX),(.bool xR),(.bool xB),(.bool xE),(.bool xS),(.int .u8 xD),(.int .u8 xV),(.int .u32 xA),(.slice xa xl xc)]).drew:=by
 have i1:(i:Int) < (n:Int):=by omega
 have j1:(j:Int) < (n:Int):=by omega
 have p1:¬i*13=j*13+1:=by omega
 have q1:¬i*13+1=j*13:=by omega
 have r1:¬j*13=i*13+1:=by omega
 have s1:¬j*13+1=i*13:=by omega
 have p2:¬i*13=j*13+2:=by omega
 have q2:¬i*13+2=j*13:=by omega
 have r2:¬j*13=i*13+2:=by omega
 have s2:¬j*13+2=i*13:=by omega
 have p3:¬i*13=j*13+3:=by omega
 have q3:¬i*13+3=j*13:=by omega
 have r3:¬j*13=i*13+3:=by omega
 have s3:¬j*13+3=i*13:=by omega
 have p4:¬i*13=j*13+4:=by omega
 have q4:¬i*13+4=j*13:=by omega
 have r4:¬j*13=i*13+4:=by omega
 have s4:¬j*13+4=i*13:=by omega
 have p5:¬i*13=j*13+5:=by omega
 have q5:¬i*13+5=j*13:=by omega
 have r5:¬j*13=i*13+5:=by omega
 have s5:¬j*13+5=i*13:=by omega
 have p6:¬i*13=j*13+6:=by omega
 have q6:¬i*13+6=j*13:=by omega
 have r6:¬j*13=i*13+6:=by omega
 have s6:¬j*13+6=i*13:=by omega
 have p7:¬i*13=j*13+7:=by omega
 have q7:¬i*13+7=j*13:=by omega
 have r7:¬j*13=i*13+7:=by omega
 have s7:¬j*13+7=i*13:=by omega
 have p8:¬i*13=j*13+8:=by omega
 have q8:¬i*13+8=j*13:=by omega
 have r8:¬j*13=i*13+8:=by omega
 have s8:¬j*13+8=i*13:=by omega
 have p9:¬i*13=j*13+9:=by omega
 have q9:¬i*13+9=j*13:=by omega
 have r9:¬j*13=i*13+9:=by omega
 have s9:¬j*13+9=i*13:=by omega
 have p10:¬i*13=j*13+10:=by omega
 have q10:¬i*13+10=j*13:=by omega
 have r10:¬j*13=i*13+10:=by omega
 have s10:¬j*13+10=i*13:=by omega
 have p11:¬i*13=j*13+11:=by omega
 have q11:¬i*13+11=j*13:=by omega
 have r11:¬j*13=i*13+11:=by omega
 have s11:¬j*13+11=i*13:=by omega
 have p12:¬i*13=j*13+12:=by omega
 have q12:¬i*13+12=j*13:=by omega
 have r12:¬j*13=i*13+12:=by omega
 have s12:¬j*13+12=i*13:=by omega
 have p0:¬i*13=j*13:=by omega
 have q0:¬j*13=i*13:=by omega
 have hji:¬j=i:=fun h=>hij h.symm
 clear hi hj
 go_enter Tryd.func124,Tryd.ntmps124
 go_wp2_with fail
 go_region
 go_end0
 exact⟨rfl,rfl⟩
theorem swaponeE (R g cap n i:Nat) (xk xn xK xI xD xV xA:Int) (xX xR xB xE xS:Bool) (xa:Option Addr) (xl xc:Nat) (w:World)
    (hR:w.cell? ⟨R,2,none⟩=some (.slice (some ⟨g,0,none⟩) n cap)) (hne:¬R=g) (hi:i < n) (hn:n<=1000)
    (ci0:w.cell? ⟨g,i*13,none⟩=some (.int .u64 xk)) (fi0:w.frozen? ⟨g,i*13,none⟩=false)
    (ci1:w.cell? ⟨g,i*13+1,none⟩=some (.int .i64 xn)) (fi1:w.frozen? ⟨g,i*13+1,none⟩=false)
    (ci2:w.cell? ⟨g,i*13+2,none⟩=some (.int .i64 xK)) (fi2:w.frozen? ⟨g,i*13+2,none⟩=false)
    (ci3:w.cell? ⟨g,i*13+3,none⟩=some (.int .u32 xI)) (fi3:w.frozen? ⟨g,i*13+3,none⟩=false)
    (ci4:w.cell? ⟨g,i*13+4,none⟩=some (.bool xX)) (fi4:w.frozen? ⟨g,i*13+4,none⟩=false)
    (ci5:w.cell? ⟨g,i*13+5,none⟩=some (.bool xR)) (fi5:w.frozen? ⟨g,i*13+5,none⟩=false)
    (ci6:w.cell? ⟨g,i*13+6,none⟩=some (.bool xB)) (fi6:w.frozen? ⟨g,i*13+6,none⟩=false)
    (ci7:w.cell? ⟨g,i*13+7,none⟩=some (.bool xE)) (fi7:w.frozen? ⟨g,i*13+7,none⟩=false)
    (ci8:w.cell? ⟨g,i*13+8,none⟩=some (.bool xS)) (fi8:w.frozen? ⟨g,i*13+8,none⟩=false)
    (ci9:w.cell? ⟨g,i*13+9,none⟩=some (.int .u8 xD)) (fi9:w.frozen? ⟨g,i*13+9,none⟩=false)
    (ci10:w.cell? ⟨g,i*13+10,none⟩=some (.int .u8 xV)) (fi10:w.frozen? ⟨g,i*13+10,none⟩=false)
    (ci11:w.cell? ⟨g,i*13+11,none⟩=some (.int .u32 xA)) (fi11:w.frozen? ⟨g,i*13+11,none⟩=false)
    (ci12:w.cell? ⟨g,i*13+12,none⟩=some (.slice xa xl xc)) (fi12:w.frozen? ⟨g,i*13+12,none⟩=false)
 :
    Calls Tryd.prog 124 #[.pointer (some ⟨R,2,none⟩),.int .i64 (i:Nat),.int .i64 (i:Nat)] w fun e w'=>e = .returned (.tuple #[])/\w'=((w.setCells g (i*13) [(.int .u64 xk),(.int .i64 xn),(.int .i64 xK),(.int .u32 xI),(.bool xX),(.bool xR),(.bool xB),(.bool xE),(.bool xS),(.int .u8 xD),(.int .u8 xV),(.int .u32 xA),(.slice xa xl xc)]).setCells g (i*13) [(.int .u64 xk),(.int .i64 xn),(.int .i64 xK),(.int .u32 xI),(.bool xX),(.bool xR),(.bool xB),(.bool xE),(.bool xS),(.int .u8 xD),(.int .u8 xV),(.int .u32 xA),(.slice xa xl xc)]).drew:=by
  have i1:(i:Int) < (n:Int):=by omega
  clear hi
  go_enter Tryd.func124,Tryd.ntmps124
  go_wp2_with fail
  go_region
  go_end0
  exact⟨rfl,rfl⟩
end Go.Proofs.YtdedoeeekcfkpaaDoor
namespace Go.Proofs.YtdedoeeekcfkpaaDoor
set_option linter.unusedVariables false
set_option linter.unusedSimpArgs false
open Go.RowKit Go.Sort
theorem hlessE_any (R:Nat) (r s:Value) (v:Value) (l:List (It × Value)) (w:World) (h:HeE w R r s v l) (i j:Nat) (hi:i < l.length) (hj:j < l.length) (hl:l.length<=1000) :
    Calls Tryd.prog 121 #[.pointer (some ⟨R,2,none⟩),.int .i64 (i:Nat),.int .i64 (j:Nat)] w fun e w'=>e = .returned (.bool (ahG kpE (l.getD i dR) (l.getD j dR)))/\Nb w w':=by
 obtain⟨g,cap,rfl,hr,hgR,_,_⟩:=h.row (by omega)
 have c2:=h.blk.cell 2
 have c3:=h.blk.cell 3
 simp only[List.getElem?_toArray,List.getElem?_cons_zero,List.getElem?_cons_succ,cmpHE] at c2 c3
 obtain⟨p,hp⟩:∃ q,l.getD i dR=q:=⟨_,rfl⟩
 obtain⟨q,hq⟩:∃ q,l.getD j dR=q:=⟨_,rfl⟩
 rw[hp,hq]
 have hc:=Lib.hid (fun w=>hcmpNE_any p q w)
 have hg:decide (cmpG (kpE p) (kpE q) < 0)=ahG kpE p q:=cmpG_lt _ _
 generalize ahG kpE p q=b at hg ⊢
 generalize cmpG (kpE p) (kpE q)=r at hc hg
 obtain⟨⟨xn,⟨xK,xI,xX,xR,xB,xE,xS,xD,xV,xA⟩,xl⟩,xv⟩:=p
 obtain⟨⟨yn,⟨yK,yI,yX,yR,yB,yE,yS,yD,yV,yA⟩,yl⟩,yv⟩:=q
 have HI:=Lib.hid (fun w' (n:Nb w w')=>((hr.nb n).at hi hp).1)
 have HJ:=Lib.hid (fun w' (n:Nb w w')=>((hr.nb n).at hj hq).1)
 have HR:=Lib.hid (fun w' (n:Nb w w')=>(show w'.cell? ⟨R,2,none⟩=_ from ((h.blk.nb n).cell 2):w'.cell? ⟨R,2,none⟩=some (.slice (some ⟨g,0,none⟩) l.length cap)))
 have HC:=Lib.hid (fun w' (n:Nb w w')=>(show w'.cell? ⟨R,3,none⟩=_ from ((h.blk.nb n).cell 3):w'.cell? ⟨R,3,none⟩=some (.func (.func 32) #[] #[])))
 obtain⟨a0,a1,a2,a3,a4,a5,a6,a7,a8,a9,a10,a11,a12⟩:=HI.out _ Nb.rfl
 obtain⟨b0,b1,b2,b3,b4,b5,b6,b7,b8,b9,b10,b11,b12⟩:=HJ.out _ Nb.rfl
 have i1:(i:Int) < (l.length:Int):=by omega
 have j1:(j:Int) < (l.length:Int):=by omega
 clear hi hj hp hq h hr
 simp only[enC,itC] at hc
 generalize l.length=n at *
 go_enter Tryd.func121,Tryd.ntmps121
 go_wp2_with fail
 go_region_held3 (fun w'=>w'.cell? ⟨R,2,none⟩=some (.slice (some ⟨g,0,none⟩) n cap)/\w'.cell? ⟨R,3,none⟩=some (.func (.func 32) #[] #[])/\(w'.cell? ⟨g,i*13,none⟩=some (.int .u64 ((keyF ⟨xK,xI,xX,xR,xB,xE,xS,xD,xV,xA⟩:Nat):Int))/\w'.cell? ⟨g,i*13+1,none⟩=some (.int .i64 ((xn:Nat):Int))/\w'.cell? ⟨g,i*13+2,none⟩=some (.int .i64 xK)/\w'.cell? ⟨g,i*13+3,none⟩=some (.int .u32 xI)/\w'.cell? ⟨g,i*13+4,none⟩=some (.bool xX)/\w'.cell? ⟨g,i*13+5,none⟩=some (.bool xR)/\w'.cell? ⟨g,i*13+6,none⟩=some (.bool xB)/\w'.cell? ⟨g,i*13+7,none⟩=some (.bool xE)/\w'.cell? ⟨g,i*13+8,none⟩=some (.bool xS)/\w'.cell? ⟨g,i*13+9,none⟩=some (.int .u8 xD)/\w'.cell? ⟨g,i*13+10,none⟩=some (.int .u8 xV)/\w'.cell? ⟨g,i*13+11,none⟩=some (.int .u32 xA)/\w'.cell? ⟨g,i*13+12,none⟩=some xv)/\(w'.cell? ⟨g,j*13,none⟩=some (.int .u64 ((keyF ⟨yK,yI,yX,yR,yB,yE,yS,yD,yV,yA⟩:Nat):Int))/\w'.cell? ⟨g,j*13+1,none⟩=some (.int .i64 ((yn:Nat):Int))/\w'.cell? ⟨g,j*13+2,none⟩=some (.int .i64 yK)/\w'.cell? ⟨g,j*13+3,none⟩=some (.int .u32 yI)/\w'.cell? ⟨g,j*13+4,none⟩=some (.bool yX)/\w'.cell? ⟨g,j*13+5,none⟩=some (.bool yR)/\w'.cell? ⟨g,j*13+6,none⟩=some (.bool yB)/\w'.cell? ⟨g,j*13+7,none⟩=some (.bool yE)/\w'.cell? ⟨g,j*13+8,none⟩=some (.bool yS)/\w'.cell? ⟨g,j*13+9,none⟩=some (.int .u8 yD)/\w'.cell? ⟨g,j*13+10,none⟩=some (.int .u8 yV)/\w'.cell? ⟨g,j*13+11,none⟩=some (.int .u32 yA)/\w'.cell? ⟨g,j*13+12,none⟩=some yv)) (first | go_keep | exact⟨HR.out _ (Nb.tr (Below.drew (Below.refl _ _):Nb w w.drew) n7),HC.out _ (Nb.tr (Below.drew (Below.refl _ _):Nb w w.drew) n7),HI.out _ (Nb.tr (Below.drew (Below.refl _ _):Nb w w.drew) n7),HJ.out _ (Nb.tr (Below.drew (Below.refl _ _):Nb w w.drew) n7)⟩) ((go_at_call 32;refine (hc.out _).mono ?_;rintro e w7 ⟨rfl,n7⟩))
 have N7:=Lib.hid (Nb.tr (Below.drew (Below.refl _ _):Nb w w.drew) n7)
 clear n7
 go_wp2
 go_ret
 exact⟨rfl,N7.out⟩
theorem gsw_same {α:Type} (d:α) (l:List α) {i:Nat} (hi:i < l.length):gsw d l i i=l:=gget_ext d (gsw_len d l i i) fun k _=>by
 rw[gsw_get d l hi hi k]
 by_cases e:k=i
 ·rw[if_pos e,e]
 ·rw[if_neg e,if_neg e]
theorem hswapE_any (R:Nat) (r s:Value) (v:Value) (l:List (It × Value)) (w:World) (h:HeE w R r s v l) (hS:SlE l) (i j:Nat) (hi:i < l.length) (hj:j < l.length) (hl:l.length<=1000) :
    Calls Tryd.prog 124 #[.pointer (some ⟨R,2,none⟩),.int .i64 (i:Nat),.int .i64 (j:Nat)] w fun e w'=>e = .returned (.tuple #[])/\HeE w' R r s v (gsw dR l i j)/\Kp (fun k=>v.ownBlock=some k) w w':=by
 obtain⟨g,cap,rfl,hr,hgR,hn1,hn2⟩:=h.row (by omega)
 have c2:=h.blk.cell 2
 simp only[List.getElem?_toArray,List.getElem?_cons_zero,List.getElem?_cons_succ] at c2
 have hgR':¬R=g:=fun e=>hgR e.symm
 have put:HeE (((w.setCells g (i*13) (enC (l.getD j dR))).setCells g (j*13) (enC (l.getD i dR))).drew) R r s (.slice (some ⟨g,0,none⟩) l.length cap) (gsw dR l i j)/\Kp (fun k=>Value.ownBlock (.slice (some ⟨g,0,none⟩) l.length cap)=some k) w (((w.setCells g (i*13) (enC (l.getD j dR))).setCells g (j*13) (enC (l.getD i dR))).drew):=by
  have k1:Kp (fun k=>k=g) w (((w.setCells g (i*13) (enC (l.getD j dR))).setCells g (j*13) (enC (l.getD i dR))).drew):=((Kp.sets (F:=fun k=>k=g) rfl _ _ _).tr (Kp.sets (F:=fun k=>k=g) rfl _ _ _) (fun _ h => .inl h)).tr (Kp.ofNb (F:=fun _=>False) (Below.drew (Below.refl _ _))) (fun _ h=>h.elim)
  have r2:RwE (((w.setCells g (i*13) (enC (l.getD j dR))).setCells g (j*13) (enC (l.getD i dR))).drew) g cap (gsw dR l i j):=((hr.put hi (l.getD j dR)).put (by rw[List.length_set];exact hj) (l.getD i dR)).nb (Below.drew (Below.refl _ _))
  have o2:=r2.own
  rw[gsw_len] at o2
  exact⟨⟨h.blk.keep k1 hgR',o2,h.ne⟩,k1.mono fun k _ e=>by subst e;rfl⟩
 obtain⟨p,hp⟩:∃ q,l.getD i dR=q:=⟨_,rfl⟩
 obtain⟨q,hq⟩:∃ q,l.getD j dR=q:=⟨_,rfl⟩
 by_cases hij:i=j
 ·subst hij
  rw[hp] at put
  obtain⟨⟨xn,⟨xK,xI,xX,xR,xB,xE,xS,xD,xV,xA⟩,xl⟩,xv⟩:=p
  obtain⟨⟨ma0,ma1,ma2,ma3,ma4,ma5,ma6,ma7,ma8,ma9,ma10,ma11,ma12⟩,mb0,mb1,mb2,mb3,mb4,mb5,mb6,mb7,mb8,mb9,mb10,mb11,mb12⟩:=hr.at hi hp
  obtain⟨xa,xm,xc,rfl⟩:=hS.at hi hp
  exact (swaponeE R g cap l.length i _ _ _ _ _ _ _ _ _ _ _ _ _ _ _ w c2 hgR' hi hl ma0 mb0 ma1 mb1 ma2 mb2 ma3 mb3 ma4 mb4 ma5 mb5 ma6 mb6 ma7 mb7 ma8 mb8 ma9 mb9 ma10 mb10 ma11 mb11 ma12 mb12).mono fun e w' ⟨h1,h2⟩=>by
   rw[h2]
   exact⟨h1,put⟩
 ·rw[hp,hq] at put
  obtain⟨⟨xn,⟨xK,xI,xX,xR,xB,xE,xS,xD,xV,xA⟩,xl⟩,xv⟩:=p
  obtain⟨⟨yn,⟨yK,yI,yX,yR,yB,yE,yS,yD,yV,yA⟩,yl⟩,yv⟩:=q
  obtain⟨⟨ma0,ma1,ma2,ma3,ma4,ma5,ma6,ma7,ma8,ma9,ma10,ma11,ma12⟩,mb0,mb1,mb2,mb3,mb4,mb5,mb6,mb7,mb8,mb9,mb10,mb11,mb12⟩:=hr.at hi hp
  obtain⟨⟨mc0,mc1,mc2,mc3,mc4,mc5,mc6,mc7,mc8,mc9,mc10,mc11,mc12⟩,md0,md1,md2,md3,md4,md5,md6,md7,md8,md9,md10,md11,md12⟩:=hr.at hj hq
  obtain⟨xa,xm,xc,rfl⟩:=hS.at hi hp
  obtain⟨ya,ym,yc,rfl⟩:=hS.at hj hq
  exact (swaprawE R g cap l.length i j _ _ _ _ _ _ _ _ _ _ _ _ _ _ _ _ _ _ _ _ _ _ _ _ _ _ _ _ _ _ w c2 hgR' hi hj hl hij ma0 mb0 ma1 mb1 ma2 mb2 ma3 mb3 ma4 mb4 ma5 mb5 ma6 mb6 ma7 mb7 ma8 mb8 ma9 mb9 ma10 mb10 ma11 mb11 ma12 mb12 mc0 md0 mc1 md1 mc2 md2 mc3 md3 mc4 md4 mc5 md5 mc6 md6 mc7 md7 mc8 md8 mc9 md9 mc10 md10 mc11 md11 mc12 md12).mono fun e w' ⟨h1,h2⟩=>by
   rw[h2]
   exact⟨h1,put⟩
end Go.Proofs.YtdedoeeekcfkpaaDoor
namespace Go.Proofs.YtdedoeeekcfkpaaDoor
set_option linter.unusedVariables false
set_option linter.unusedSimpArgs false
open Go.RowKit Go.Sort
theorem step_appHE (w:World) {ops:Array Oper} {o:Oper} {a:Act} {K:Act->World->Prop} {Q:Exit->Act->World->Prop} {E:Prop}
    (hg:o.guard=none) (s x:Operand) (hop:o.op=Op.call { callee:=Callee.builtin Builtin.append,args:=#[s,x],argTypes:=#[70,70] })
    (v:Value) (l:List (It × Value)) (hs:a.eval s=v) (hown:OwnE w v l)
    (b:Nat) (e:It × Value) (hx:a.eval x = .slice (some ⟨b,0,none⟩) 1 1) (hc:∀ j u,(enC e)[j]? = some u->w.cell? ⟨b,j,none⟩=some u) (h1:e.2.oneCell'=true) (b1:l.length+1<=1000000)
    (hK:∀ v' w',OwnE w' v' (l++[e])->Kp (fun k=>v.ownBlock=some k) w w'->(∀ g,v'.ownBlock=some g->v.ownBlock=some g\/w.heap.size<=g)->K (a.put o.dst v') w') :
    if Region.wanted o (yielded ops a.tmps)=true then Oper.wp Tryd.prog o a w K Q else E:=by
 obtain⟨i0,hi,hz0,hz1,hz2⟩:=info_parts infoHE
 have hw:Region.wanted o (yielded ops a.tmps)=true:=by simp[Region.wanted,hg]
 have hlen:=cellsE_len [e]
 have h1c:=fun u hu=>cellsE_one [e] u hu (fun p hp=>by rw[List.mem_singleton.1 hp];exact h1)
 have hc':∀ j u,(cellsE [e])[j]? = some u->w.cell? ((⟨b,0,none⟩:Addr).add j)=some u:=fun j u hu=>by
  rw[Addr.add_lit,Nat.zero_add]
  exact hc j u (by simpa [cellsE] using hu)
 have hall:∀ v' w',w'.ownsRow 0 79 13 v' (l.length+1) (cellsE l++cellsE [e])->w.grownBy w' v.ownBlock->(∀ g,v'.ownBlock=some g->v.ownBlock=some g\/w.heap.size<=g)->K (a.put o.dst v') w':=fun v' w' ho hgr hbl =>
  hK v' w' (by simpa [OwnE,cellsE_app] using ho) (Kp.grown hgr (fun k hk=>hk)) hbl
 have hnew:∀ v' w',w'.ownsRow w.heap.size 79 13 v' (l.length+1) (cellsE l++cellsE [e])->w.grownBy w' none->K (a.put o.dst v') w':=fun v' w' ho hgr =>
  hall v' w' (ownsRow_weak ho) ⟨hgr.os,hgr.tape,hgr.output,hgr.size,fun k hk _=>hgr.block k hk (by simp)⟩ (fun g hg => .inr (ho.lt g hg).1)
 rcases hown.2 with ⟨rfl,h2⟩ | ⟨g,cap,cur,rfl,hbg,hgg,hnc,hcm,hcs,htake⟩
 ·have hl:l=[]:=List.length_eq_zero_iff.1 h2
  subst hl
  rw[if_pos hw]
  obtain⟨v',w',hrun,r1,r2,_⟩:=run_append_own (P:=Tryd.prog) w w.heap.size 70 o.type 79 i0 _ 13 64 Tryd.underlying70 hi hz0 hz1 hz2 rfl (by decide) (.slice none 0 0) 0 [] (World.ownsRow_nil w _ _ _) ⟨b,0,none⟩ 1 1 (cellsE [e]) hlen hc' h1c (by unfold maxLen;omega) (by omega) (Nat.le_refl _)
  unfold Oper.wp
  simp[execOp,hop,resolve,invoke,builtin,hs,hx,hrun,Result.andThen]
  exact hnew v' w' (by simpa [show cellsE []=[] from rfl] using r1) r2
 ·by_cases hroom:l.length+1<=cap
  ·rw[if_pos hw]
   obtain⟨w',hrun,r1,r2⟩:=run_append_fits (P:=Tryd.prog) w 0 70 o.type 79 i0 13 Tryd.underlying70 hi hz1 g l.length cap _ hown ⟨b,0,none⟩ 1 1 _ hlen hc' h1c hroom
   unfold Oper.wp
   simp[execOp,hop,resolve,invoke,builtin,hs,hx,hrun,Result.andThen]
   exact hall _ _ r1 r2 (fun k hk => .inl (by simpa [Value.ownBlock] using hk))
  ·exact step_append_grows hg s x 70 hop 79 i0 _ 13 64 Tryd.underlying70 hi hz0 hz1 hz2 rfl (by decide) (some ⟨g,0,none⟩) l.length cap _ hs (by simp) hown.1 (fun b hb=>by cases hb;exact hown.cells (g:=g) rfl) ⟨b,0,none⟩ 1 1 _ hx hlen hc' h1c (by omega) (by unfold maxLen;omega) (by omega) hnew
theorem hpopE_any (R:Nat) (r s:Value) (v:Value) (l:List (It × Value)) (n:Nat) (w:World) (h:HeE w R r s v l) (hS:SlE l) (hn:l.length=n+1) (hl:l.length<=1000) :
    Calls Tryd.prog 122 #[.pointer (some ⟨R,2,none⟩)] w fun e w'=>e = .returned (.iface 79 (.agg (enC (l.getD n dR)).toArray))/\∃ v',HeE w' R r s v' (l.take n)/\v'.ownBlock=v.ownBlock/\Kp (fun k=>k=R\/v.ownBlock=some k) w w':=by
 obtain⟨g,cap,rfl,hr,hgR,hn1,hn2⟩:=h.row (by omega)
 have c2:=h.blk.cell 2
 have f2:=h.blk.frozen 2
 have hR:=h.blk.lt
 have hgl:=hr.lt
 simp only[List.getElem?_toArray,List.getElem?_cons_zero,List.getElem?_cons_succ] at c2
 have hgR':¬R=g:=fun e=>hgR e.symm
 obtain⟨p,hp⟩:∃ q,l.getD n dR=q:=⟨_,rfl⟩
 rw[hp]
 obtain⟨⟨xn,⟨xK,xI,xX,xR,xB,xE,xS,xD,xV,xA⟩,xl⟩,xv⟩:=p
 obtain⟨⟨a0,a1,a2,a3,a4,a5,a6,a7,a8,a9,a10,a11,a12⟩,b0,b1,b2,b3,b4,b5,b6,b7,b8,b9,b10,b11,b12⟩:=hr.at (by omega) hp
 obtain⟨xa,xm,xc,rfl⟩:=hS.at (by omega) hp
 have HP:=Lib.hid (show ∀ w3,Nb ((w.setCells g (n*13) [.int .u64 0,.int .i64 0,.int .i64 0,.int .u32 0,.bool false,.bool false,.bool false,.bool false,.bool false,.int .u8 0,.int .u8 0,.int .u32 0,.slice none 0 0]).setCell ⟨R,2,none⟩ (.slice (some ⟨g,0,none⟩) n cap)) w3->HeE w3 R r s (.slice (some ⟨g,0,none⟩) n cap) (l.take n)/\Kp (fun k=>k=R\/Value.ownBlock (.slice (some ⟨g,0,none⟩) l.length cap)=some k) w w3 from fun w3 n3=>by
  have k1:Kp (fun k=>k=g) w (w.setCells g (n*13) [.int .u64 0,.int .i64 0,.int .i64 0,.int .u32 0,.bool false,.bool false,.bool false,.bool false,.bool false,.int .u8 0,.int .u8 0,.int .u32 0,.slice none 0 0]):=Kp.sets (F:=fun k=>k=g) rfl _ _ _
  have r1:=hr.behind (n:=n) (by omega) [.int .u64 0,.int .i64 0,.int .i64 0,.int .u32 0,.bool false,.bool false,.bool false,.bool false,.bool false,.int .u8 0,.int .u8 0,.int .u32 0,.slice none 0 0] rfl
  have r2:=(r1.keep (Kp.set (F:=fun k=>k=R) (p:=⟨R,2,none⟩) (u := .slice (some ⟨g,0,none⟩) n cap) rfl) hgR).nb n3
  have b2:=((h.blk.keep k1 hgR').set 2 (.slice (some ⟨g,0,none⟩) n cap)).nb n3
  have o2:=r2.own
  rw[show (l.take n).length=n by rw[List.length_take];omega] at o2
  refine⟨⟨by simpa using b2,o2,h.ne⟩,?_⟩
  refine (((k1.mono fun k _ e => .inr (by subst e;rfl)).tr (Kp.set (F:=fun k=>k=R) (p:=⟨R,2,none⟩) rfl) (fun k e => .inl (.inl e))).tr (Kp.ofNb (F:=fun _=>False) n3) (fun _ e=>e.elim)))
 unfold maxLen at hn2
 clear h hr hp hS
 rw[hn] at c2 hl hn1
 simp only[enC,itC,kpE]
 generalize keyF ⟨xK,xI,xX,xR,xB,xE,xS,xD,xV,xA⟩=xk at *
 clear hn
 go_enter Tryd.func122,Tryd.ntmps122
 go_wp2_with fail
 go_region
 go_wp2
 go_ret
 exact⟨rfl,_,(HP.out _ (((Nb.rfl.al _).al _).tr (Below.drew (Below.refl _ _)))).1,rfl,(HP.out _ (((Nb.rfl.al _).al _).tr (Below.drew (Below.refl _ _)))).2⟩
theorem hpushE_any (R:Nat) (r s:Value) (v:Value) (l:List (It × Value)) (p:It × Value) (w:World) (h:HeE w R r s v l) (hp1:p.2.oneCell'=true) (hl:l.length+1<=1000) :
    Calls Tryd.prog 123 #[.pointer (some ⟨R,2,none⟩),.iface 79 (.agg (enC p).toArray)] w fun e w'=>e = .returned (.tuple #[])/\∃ v',HeE w' R r s v' (l++[p])/\(∀ g,v'.ownBlock=some g->v.ownBlock=some g\/w.heap.size<=g)/\Kp (fun k=>k=R\/v.ownBlock=some k) w w':=by
 obtain⟨a,cap,rfl,_,hn1,hn2⟩:=h.own.shape
 have c2:=h.blk.cell 2
 have f2:=h.blk.frozen 2
 have hR:=h.blk.lt
 simp only[List.getElem?_toArray,List.getElem?_cons_zero,List.getElem?_cons_succ] at c2
 obtain⟨u,hu⟩:∃ u,u=(enC p).toArray:=⟨_,rfl⟩
 have CE:=Lib.hid (show ∀ w':World,Nb (w.alloc (.cells u 79)) w'->∀ j x,(enC p)[j]? = some x->w'.cell? ⟨w.heap.size,j,none⟩=some x from fun w' n j x hx=>by
  have b:=(Blk.new w u 79).nb n
  rw[b.cell j,hu]
  simpa using hx)
 have OW:=Lib.hid (fun w' (n:Nb w w')=>h.own.nb n)
 have HB:=Lib.hid h.blk
 have NE:=Lib.hid h.ne
 have H1:=Lib.hid hp1
 rw[<- hu]
 obtain⟨⟨xn,⟨xK,xI,xX,xR,xB,xE,xS,xD,xV,xA⟩,xl⟩,xv⟩:=p
 simp only[enC,itC] at hu
 subst hu
 clear h hp1
 have rT:∀ w,(Instr.typeAssert (.iface 79 (.agg #[(.int .u64 ((keyF ⟨xK,xI,xX,xR,xB,xE,xS,xD,xV,xA⟩:Nat):Int)),(.int .i64 ((xn:Nat):Int)),(.int .i64 xK),(.int .u32 xI),(.bool xX),(.bool xR),(.bool xB),(.bool xE),(.bool xS),(.int .u8 xD),(.int .u8 xV),(.int .u32 xA),xv])) 20 79 false).run Tryd.prog w = .ok (.agg #[(.int .u64 ((keyF ⟨xK,xI,xX,xR,xB,xE,xS,xD,xV,xA⟩:Nat):Int)),(.int .i64 ((xn:Nat):Int)),(.int .i64 xK),(.int .u32 xI),(.bool xX),(.bool xR),(.bool xB),(.bool xE),(.bool xS),(.int .u8 xD),(.int .u8 xV),(.int .u32 xA),xv]) w:=fun _=>by kernel_rfl
 go_enter Tryd.func123,Tryd.ntmps123
 go_wp2_with fail
 go_region_law (refine step_appHE _ rfl (.tmp 8) (.tmp 11) rfl (.slice a l.length cap) l (by simp[Act.eval,Act.put]) (OW.out _ ((Nb.rfl.al _).tr (Below.drew (Below.refl _ _)))) w.heap.size ⟨⟨xn,⟨xK,xI,xX,xR,xB,xE,xS,xD,xV,xA⟩,xl⟩,xv⟩ (by simp[Act.eval,Act.put]) (CE.out _ (Below.drew (Below.refl _ _))) H1.out (by omega) ?_
                intro v7 w7 ho hk7 hg7
                have k7:=Lib.hid (show Kp (fun k=>Value.ownBlock (.slice a l.length cap)=some k) w w7 from (Kp.ofNb ((Nb.rfl.al _).tr (Below.drew (Below.refl _ _)))).tr hk7 (fun k e => .inl e))
                have g7:=Lib.hid (show ∀ g,v7.ownBlock=some g->Value.ownBlock (.slice a l.length cap)=some g\/w.heap.size<=g from fun g e=>(hg7 g e).imp id (fun q=>Nat.le_trans ((Nb.rfl.al _).tr (Below.drew (Below.refl _ _)):Nb w _).size q))
                have b7:=HB.out.keep k7.out NE.out
                have B7:=Lib.hid b7
                obtain⟨L7,hL7⟩:∃ X,X=l++[(⟨⟨xn,⟨xK,xI,xX,xR,xB,xE,xS,xD,xV,xA⟩,xl⟩,xv⟩:It × Value)]:=⟨_,rfl⟩
                rw[<- hL7] at ho
                have O7:=Lib.hid ho
                have HL7:=Lib.hid hL7
                obtain⟨a7,c7,rfl,_⟩:=ho.shape
                clear hL7
                have hR7:=b7.lt
                have e2:w7.cell? ⟨R,2,none⟩=some (.slice a l.length cap):=b7.cell 2
                have d2:w7.frozen? ⟨R,2,none⟩=false:=b7.frozen 2
                clear ho hk7 hg7 b7)
 all_goals
  have ne7:Value.ownBlock (.slice a7 L7.length c7)≠some R:=fun e=>(g7.out R e).elim NE.out (fun q=>by omega)
  have b8:=B7.out.set 2 (.slice a7 L7.length c7)
  have k8:Kp (fun k=>k=R) w7 (w7.setCell ⟨R,2,none⟩ (.slice a7 L7.length c7)):=Kp.set (F:=fun k=>k=R) rfl
  have o8:=O7.out.keep k8 (fun g hg e=>ne7 (by rw[hg,e]))
  have B8:=Lib.hid b8
  have O8:=Lib.hid o8
  have N7:=Lib.hid ne7
  have K8:=Lib.hid ((k7.out.mono (F':=fun k=>k=R\/Value.ownBlock (.slice a l.length cap)=some k) (fun _ _ h => .inr h)).tr k8 (fun _ h => .inl (.inl h)))
  clear b8 k8 o8 ne7
  go_wp2
  go_end0
  exact⟨rfl,_,⟨by simpa using B8.out,by rw[<- HL7.out];exact O8.out,N7.out⟩,g7.out,K8.out⟩
end Go.Proofs.YtdedoeeekcfkpaaDoor
namespace Go.Proofs.YtdedoeeekcfkpaaDoor
set_option linter.unusedVariables false
set_option linter.unusedSimpArgs false
open Go.RowKit Go.Sort
theorem mthHE_Less (R : Nat) (w : World) : (method 275 103 (.pointer (some ⟨R, 2, none⟩)) "Less").run Tryd.prog w = .ok (121, .pointer (some ⟨R, 2, none⟩)) w := by kernel_rfl
theorem cfHE_Less:∀ args w,(callFunc 121 args).run Tryd.prog w = .ok (.enter 121 args) w:=hcf _ _ Tryd.func121 (by kernel_rfl) (by kernel_rfl)
theorem mthHE_Swap (R : Nat) (w : World) : (method 275 103 (.pointer (some ⟨R, 2, none⟩)) "Swap").run Tryd.prog w = .ok (124, .pointer (some ⟨R, 2, none⟩)) w := by kernel_rfl
theorem cfHE_Swap:∀ args w,(callFunc 124 args).run Tryd.prog w = .ok (.enter 124 args) w:=hcf _ _ Tryd.func124 (by kernel_rfl) (by kernel_rfl)
theorem mthHE_Len (R : Nat) (w : World) : (method 275 103 (.pointer (some ⟨R, 2, none⟩)) "Len").run Tryd.prog w = .ok (63, .pointer (some ⟨R, 2, none⟩)) w := by kernel_rfl
theorem cfHE_Len:∀ args w,(callFunc 63 args).run Tryd.prog w = .ok (.enter 63 args) w:=hcf _ _ Tryd.func63 (by kernel_rfl) (by kernel_rfl)
theorem mthHE_Pop (R : Nat) (w : World) : (method 275 103 (.pointer (some ⟨R, 2, none⟩)) "Pop").run Tryd.prog w = .ok (122, .pointer (some ⟨R, 2, none⟩)) w := by kernel_rfl
theorem cfHE_Pop:∀ args w,(callFunc 122 args).run Tryd.prog w = .ok (.enter 122 args) w:=hcf _ _ Tryd.func122 (by kernel_rfl) (by kernel_rfl)
theorem mthHE_Push (R : Nat) (w : World) : (method 275 103 (.pointer (some ⟨R, 2, none⟩)) "Push").run Tryd.prog w = .ok (123, .pointer (some ⟨R, 2, none⟩)) w := by kernel_rfl
theorem cfHE_Push:∀ args w,(callFunc 123 args).run Tryd.prog w = .ok (.enter 123 args) w:=hcf _ _ Tryd.func123 (by kernel_rfl) (by kernel_rfl)
theorem SlE.perm {l m:List (It × Value)} (h:SlE l) (hp:m.Perm l):SlE m:=fun p q=>h p (hp.mem_iff.1 q)
theorem SlE.sub {l m:List (It × Value)} (h:SlE l) (hp:∀ p∈m,p∈l):SlE m:=fun p q=>h p (hp p q)
def DwnE (w w':World) (R:Nat) (r s:Value) (v:Value) (Q:Nat->Prop) (l0:List (It × Value)) (n i0:Nat) (b:Bool):Prop :=
 ∃ l' i,HeE w' R r s v l'/\DnG dR kpE Q l0 l' n i0 i/\(l'.take n).Perm (l0.take n)/\HeQ dR kpE Q l' n/\(b=decide (i0 < i))/\Kp (fun k=>v.ownBlock=some k) w w'
theorem DwnE.of {w w':World} {R:Nat} {r s v:Value} {Q:Nat->Prop} {n i0 i:Nat} {l0 l:List (It × Value)} (hp:HeE w' R r s v l) (h:DnG dR kpE Q l0 l n i0 i) (hk:Kp (fun k=>v.ownBlock=some k) w w') (hn:n<=l0.length) (hh:HeQ dR kpE Q l n):DwnE w w' R r s v Q l0 n i0 (decide (i0 < i)) :=
 ⟨l,i,hp,h,h.head dR kpE hn,hh,rfl,hk⟩
theorem hdownE_any (R:Nat) (r s:Value) (v:Value) (Q:Nat->Prop) (l0:List (It × Value)) (n i0:Nat) (w:World) (h:HeE w R r s v l0) (hS:SlE l0) (hn:n<=l0.length) (hl:l0.length<=1000) (hi0:i0<=1000) (hq:¬Q i0\/i0=0) (hq2:∀ c,i0<=(c - 1) / 2->0 < c->Q c)
    (hh:∀ c,0 < c->c < n->Q c->(c - 1) / 2≠i0->leG kpE (l0.getD ((c - 1) / 2) dR) (l0.getD c dR)) :
    Calls Tryd.prog 71 #[.iface 103 (.pointer (some ⟨R,2,none⟩)),.int .i64 (i0:Nat),.int .i64 (n:Nat)] w fun e w'=>∃ b,e = .returned (.bool b)/\DwnE w w' R r s v Q l0 n i0 b:=by
 have H:=Lib.hid h
 have HN:=Lib.hid hn
 have HS:=Lib.hid (DnG.start dR kpE hh)
 have HQ:=Lib.hid (show (¬Q i0\/i0=0)/\∀ c,i0<=(c - 1) / 2->0 < c->Q c from ⟨hq,hq2⟩)
 have SL:=Lib.hid hS
 have n1:n<=1000:=by omega
 have mL:=mthHE_Less R
 have mS:=mthHE_Swap R
 have cL:=cfHE_Less
 have cS:=cfHE_Swap
 clear h hh hn hq hq2 hS
 go_enter Tryd.func71,Tryd.ntmps71
 go_wp2
 go_loopw [7] (fun u wr=>∃ (i:Nat) (l:List (It × Value)),u = .int .i64 i/\i<=1000/\i0<=i/\DnG dR kpE Q l0 l n i0 i/\HeE wr R r s v l/\Kp (fun k=>v.ownBlock=some k) w wr) (fun u _=>n - (intOf u).toNat)
 case atStart=>exact⟨i0,l0,rfl,hi0,Nat.le_refl _,HS.out,H.out,Kp.rfl⟩
 case round =>
  obtain⟨i,l,rfl,hi,hii,hd,hp,hk⟩:=hrel
  have hlen:l.length<=1000:=by rw[hd.len];exact hl
  have hnl:n<=l.length:=by rw[hd.len];exact HN.out
  have HL:=Lib.hid (fun (w':World) (nb:Nb wr w') (j k:Nat) (hj:j < l.length) (hk:k < l.length)=>hlessE_any R r s v l w' (hp.nb nb) j k hj hk hlen)
  have HW:=Lib.hid (fun (w':World) (nb:Nb wr w') (j k:Nat) (hj:j < l.length) (hk:k < l.length)=>hswapE_any R r s v l w' (hp.nb nb) (SL.out.perm hd.perm) j k hj hk hlen)
  have HP:=Lib.hid hp
  have HD:=Lib.hid hd
  have HK:=Lib.hid hk
  have HSt:=Lib.hid (fun (h:2*i+1 < n) (hk:ahG kpE (l.getD (kidG dR kpE l n i) dR) (l.getD i dR)=true)=>hd.step dR kpE HQ.out.1 HQ.out.2 h hnl hk)
  clear hd hp hk
  by_cases h1:n<=2*i+1
  ·have hF:=Lib.hid (HD.out.stop1 dR kpE h1)
   have d1:decide ((n:Int)<=2*(i:Int)+1)=true:=decide_eq_true (by omega)
   clear hlen hnl
   go_wp2
   go_ret
   exact⟨_,rfl,DwnE.of HP.out HD.out HK.out HN.out hF.out⟩
  have h1':2*i+1 < n:=by omega
  have d1:decide ((n:Int)<=2*(i:Int)+1)=false:=decide_eq_false (by omega)
  have d2:decide (2*(i:Int)+1 < 0)=false:=decide_eq_false (by omega)
  clear h1
  have E2:=Lib.hid (show ((2*i+2:Nat):Int)=2*(i:Int)+1+1 by omega)
  have E1:=Lib.hid (show ((2*i+1:Nat):Int)=2*(i:Int)+1 by omega)
  by_cases h2:2*i+2 < n/\ahG kpE (l.getD (2*i+2) dR) (l.getD (2*i+1) dR)=true
  ·have hk2:kidG dR kpE l n i=2*i+2:=by unfold kidG;rw[if_pos h2]
   have L1:=Lib.hid (fun w' nb=>by have:=HL.out w' nb (2*i+2) (2*i+1) (by omega) (by omega);rw[h2.2,E1.out,E2.out] at this;exact this)
   have d3:decide (2*(i:Int)+1+1 < (n:Int))=true:=decide_eq_true (by omega)
   cases hb:ahG kpE (l.getD (2*i+2) dR) (l.getD i dR) with
   | false =>
     have hF:=Lib.hid (HD.out.stop2 dR kpE (by rw[hk2];exact hb))
     have L2:=Lib.hid (fun w' nb=>by have:=HL.out w' nb (2*i+2) i (by omega) (by omega);rw[hb,E2.out] at this;exact this)
     clear hlen hnl h2 hk2 hb HL HW HSt
     go_wp2_with fail
     refine (L1.out _ Nb.rfl).mono ?_
     rintro e w1 ⟨rfl,n1'⟩
     have N1:=Lib.hid (n1')
     clear n1'
     go_wp2_with fail
     refine (L2.out _ N1.out).mono ?_
     rintro e w2 ⟨rfl,n2'⟩
     have N2:=Lib.hid (N1.out.tr n2')
     clear n2'
     go_wp2
     go_ret
     exact⟨_,rfl,DwnE.of (HP.out.nb N2.out) HD.out (HK.out.tr (Kp.ofNb (F:=fun _=>False) N2.out) (fun _ h=>h.elim)) HN.out hF.out⟩
   | true =>
     have hD:=Lib.hid (HSt.out h1' (by rw[hk2];exact hb))
     have L2:=Lib.hid (fun w' nb=>by have:=HL.out w' nb (2*i+2) i (by omega) (by omega);rw[hb,E2.out] at this;exact this)
     have W2:=Lib.hid (fun w' nb=>by have:=HW.out w' nb i (2*i+2) (by omega) (by omega);rw[E2.out] at this;exact this)
     have HK2:=Lib.hid hk2
     have i2:2*i+2 < n:=h2.1
     clear hlen hnl h2 hk2 hb HL HW HSt
     go_wp2_with fail
     refine (L1.out _ Nb.rfl).mono ?_
     rintro e w1 ⟨rfl,n1'⟩
     have N1:=Lib.hid (n1')
     clear n1'
     go_wp2_with fail
     refine (L2.out _ N1.out).mono ?_
     rintro e w2 ⟨rfl,n2'⟩
     have N2:=Lib.hid (N1.out.tr n2')
     clear n2'
     go_wp2_with fail
     refine (W2.out _ N2.out).mono ?_
     rintro e w3 ⟨rfl,p3,k3⟩
     have P3:=Lib.hid p3
     have K3:=Lib.hid ((HK.out.tr (Kp.ofNb (F:=fun _=>False) N2.out) (fun _ h=>h.elim)).tr k3 (fun _ h => .inl h))
     clear p3 k3
     go_wp2
     go_roundw
     case rel=>exact⟨2*i+2,gsw dR l i (2*i+2),by rw[E2.out],by omega,by omega,by rw[<- HK2.out];exact hD.out,P3.out,K3.out⟩
     case measure=>simp[intOf];omega
  ·have hk2:kidG dR kpE l n i=2*i+1:=by unfold kidG;rw[if_neg h2]
   cases hb:ahG kpE (l.getD (2*i+1) dR) (l.getD i dR) with
   | false =>
     have hF:=Lib.hid (HD.out.stop2 dR kpE (by rw[hk2];exact hb))
     have L2:=Lib.hid (fun w' nb=>by have:=HL.out w' nb (2*i+1) i (by omega) (by omega);rw[hb,E1.out] at this;exact this)
     by_cases h3:2*i+2 < n
     ·have hq:ahG kpE (l.getD (2*i+2) dR) (l.getD (2*i+1) dR)=false:=by
       cases hq:ahG kpE (l.getD (2*i+2) dR) (l.getD (2*i+1) dR) with
       | false=>rfl
       | true=>exact absurd ⟨h3,hq⟩ h2
      have L1:=Lib.hid (fun w' nb=>by have:=HL.out w' nb (2*i+2) (2*i+1) (by omega) (by omega);rw[hq,E1.out,E2.out] at this;exact this)
      have d3:decide (2*(i:Int)+1+1 < (n:Int))=true:=decide_eq_true (by omega)
      clear hlen hnl h2 hk2 hb hq HL HW HSt
      go_wp2_with fail
      refine (L1.out _ Nb.rfl).mono ?_
      rintro e w1 ⟨rfl,n1'⟩
      have N1:=Lib.hid (n1')
      clear n1'
      go_wp2_with fail
      refine (L2.out _ N1.out).mono ?_
      rintro e w2 ⟨rfl,n2'⟩
      have N2:=Lib.hid (N1.out.tr n2')
      clear n2'
      go_wp2
      go_ret
      exact⟨_,rfl,DwnE.of (HP.out.nb N2.out) HD.out (HK.out.tr (Kp.ofNb (F:=fun _=>False) N2.out) (fun _ h=>h.elim)) HN.out hF.out⟩
     ·have d3:decide (2*(i:Int)+1+1 < (n:Int))=false:=decide_eq_false (by omega)
      clear hlen hnl h2 hk2 hb HL HW HSt
      go_wp2_with fail
      refine (L2.out _ Nb.rfl).mono ?_
      rintro e w2 ⟨rfl,n2'⟩
      have N2:=Lib.hid (n2')
      clear n2'
      go_wp2
      go_ret
      exact⟨_,rfl,DwnE.of (HP.out.nb N2.out) HD.out (HK.out.tr (Kp.ofNb (F:=fun _=>False) N2.out) (fun _ h=>h.elim)) HN.out hF.out⟩
   | true =>
     have hD:=Lib.hid (HSt.out h1' (by rw[hk2];exact hb))
     have L2:=Lib.hid (fun w' nb=>by have:=HL.out w' nb (2*i+1) i (by omega) (by omega);rw[hb,E1.out] at this;exact this)
     have W2:=Lib.hid (fun w' nb=>by have:=HW.out w' nb i (2*i+1) (by omega) (by omega);rw[E1.out] at this;exact this)
     have HK2:=Lib.hid hk2
     by_cases h3:2*i+2 < n
     ·have hq:ahG kpE (l.getD (2*i+2) dR) (l.getD (2*i+1) dR)=false:=by
       cases hq:ahG kpE (l.getD (2*i+2) dR) (l.getD (2*i+1) dR) with
       | false=>rfl
       | true=>exact absurd ⟨h3,hq⟩ h2
      have L1:=Lib.hid (fun w' nb=>by have:=HL.out w' nb (2*i+2) (2*i+1) (by omega) (by omega);rw[hq,E1.out,E2.out] at this;exact this)
      have d3:decide (2*(i:Int)+1+1 < (n:Int))=true:=decide_eq_true (by omega)
      clear hlen hnl h2 hk2 hb hq HL HW HSt
      go_wp2_with fail
      refine (L1.out _ Nb.rfl).mono ?_
      rintro e w1 ⟨rfl,n1'⟩
      have N1:=Lib.hid (n1')
      clear n1'
      go_wp2_with fail
      refine (L2.out _ N1.out).mono ?_
      rintro e w2 ⟨rfl,n2'⟩
      have N2:=Lib.hid (N1.out.tr n2')
      clear n2'
      go_wp2_with fail
      refine (W2.out _ N2.out).mono ?_
      rintro e w3 ⟨rfl,p3,k3⟩
      have P3:=Lib.hid p3
      have K3:=Lib.hid ((HK.out.tr (Kp.ofNb (F:=fun _=>False) N2.out) (fun _ h=>h.elim)).tr k3 (fun _ h => .inl h))
      clear p3 k3
      go_wp2
      go_roundw
      case rel=>exact⟨2*i+1,gsw dR l i (2*i+1),by rw[E1.out],by omega,by omega,by rw[<- HK2.out];exact hD.out,P3.out,K3.out⟩
      case measure=>simp[intOf];omega
     ·have d3:decide (2*(i:Int)+1+1 < (n:Int))=false:=decide_eq_false (by omega)
      clear hlen hnl h2 hk2 hb HL HW HSt
      go_wp2_with fail
      refine (L2.out _ Nb.rfl).mono ?_
      rintro e w2 ⟨rfl,n2'⟩
      have N2:=Lib.hid (n2')
      clear n2'
      go_wp2_with fail
      refine (W2.out _ N2.out).mono ?_
      rintro e w3 ⟨rfl,p3,k3⟩
      have P3:=Lib.hid p3
      have K3:=Lib.hid ((HK.out.tr (Kp.ofNb (F:=fun _=>False) N2.out) (fun _ h=>h.elim)).tr k3 (fun _ h => .inl h))
      clear p3 k3
      go_wp2
      go_roundw
      case rel=>exact⟨2*i+1,gsw dR l i (2*i+1),by rw[E1.out],by omega,by omega,by rw[<- HK2.out];exact hD.out,P3.out,K3.out⟩
      case measure=>simp[intOf];omega
def UppE (w w':World) (R:Nat) (r s:Value) (v:Value) (l0:List (It × Value)) (n:Nat):Prop :=
 ∃ l',HeE w' R r s v l'/\l'.length=l0.length/\l'.Perm l0/\(∀ k,n<=k->l'.getD k dR=l0.getD k dR)/\HeQ dR kpE allQ l' n/\Kp (fun k=>v.ownBlock=some k) w w'
theorem hupE_any (R:Nat) (r s:Value) (v:Value) (l0:List (It × Value)) (n j0:Nat) (w:World) (h:HeE w R r s v l0) (hS:SlE l0) (hn:n<=l0.length) (hl:l0.length<=1000) (hj0:j0 < n) (hh:UpG dR kpE l0 l0 n j0) :
    Calls Tryd.prog 72 #[.iface 103 (.pointer (some ⟨R,2,none⟩)),.int .i64 (j0:Nat)] w fun e w'=>e = .returned (.tuple #[])/\UppE w w' R r s v l0 n:=by
 have H:=Lib.hid h
 have HN:=Lib.hid hn
 have HS:=Lib.hid hh
 have SL:=Lib.hid hS
 have n1:n<=1000:=by omega
 have mL:=mthHE_Less R
 have mS:=mthHE_Swap R
 have cL:=cfHE_Less
 have cS:=cfHE_Swap
 clear h hh hn hS
 go_enter Tryd.func72,Tryd.ntmps72
 go_wp2
 go_loopw [1] (fun u wr=>∃ (j:Nat) (l:List (It × Value)),u = .int .i64 j/\j < n/\UpG dR kpE l0 l n j/\HeE wr R r s v l/\Kp (fun k=>v.ownBlock=some k) w wr) (fun u _=>(intOf u).toNat)
 case atStart=>exact⟨j0,l0,rfl,hj0,HS.out,H.out,Kp.rfl⟩
 case round =>
  obtain⟨j,l,rfl,hj,hu,hp,hk⟩:=hrel
  have hlen:l.length<=1000:=by rw[hu.len];exact hl
  have hnl:n<=l.length:=by rw[hu.len];exact HN.out
  have HU:=Lib.hid hu
  have HP:=Lib.hid hp
  have HK:=Lib.hid hk
  by_cases hj0:j=0
  ·subst hj0
   have hF:=Lib.hid (hu.stop0 dR kpE)
   clear hu hp hk hlen hnl
   go_wp2
   go_end0
   exact⟨rfl,l,HP.out,HU.out.len,HU.out.perm,HU.out.rest,hF.out,HK.out⟩
  obtain⟨i,hi⟩:∃ i,i=(j - 1) / 2:=⟨_,rfl⟩
  have E1:=Lib.hid (show ((i:Nat):Int)=((j:Int) - 1) / 2 by omega)
  have hij:i < j:=by omega
  have d1:(((j:Int) - 1) / 2==(j:Int))=false:=by simp;omega
  have HL:=Lib.hid (fun (w':World) (nb:Nb wr w')=>by have:=hlessE_any R r s v l w' (hp.nb nb) j i (by omega) (by omega) hlen;rw[E1.out] at this;exact this)
  have HW:=Lib.hid (fun (w':World) (nb:Nb wr w')=>by have:=hswapE_any R r s v l w' (hp.nb nb) (SL.out.perm hu.perm) i j (by omega) (by omega) hlen;rw[E1.out] at this;exact this)
  cases hb:ahG kpE (l.getD j dR) (l.getD i dR) with
  | false =>
    have hF:=Lib.hid (hu.stop dR kpE (by rw[<- hi];exact hb))
    rw[hb] at HL
    clear hu hp hk hlen hnl hb HW hi
    go_wp2_with fail
    refine (HL.out _ Nb.rfl).mono ?_
    rintro e w1 ⟨rfl,n1'⟩
    have N1:=Lib.hid n1'
    clear n1'
    go_wp2
    go_end0
    exact⟨rfl,l,HP.out.nb N1.out,HU.out.len,HU.out.perm,HU.out.rest,hF.out,HK.out.tr (Kp.ofNb (F:=fun _=>False) N1.out) (fun _ h=>h.elim)⟩
  | true =>
    have hD:=Lib.hid (hu.step dR kpE (by omega) hj hnl (by rw[<- hi];exact hb))
    rw[hb] at HL
    have HI:=Lib.hid hi
    clear hu hp hk hlen hnl hb hi
    go_wp2_with fail
    refine (HL.out _ Nb.rfl).mono ?_
    rintro e w1 ⟨rfl,n1'⟩
    have N1:=Lib.hid n1'
    clear n1'
    go_wp2_with fail
    refine (HW.out _ N1.out).mono ?_
    rintro e w3 ⟨rfl,p3,k3⟩
    have P3:=Lib.hid p3
    have K3:=Lib.hid ((HK.out.tr (Kp.ofNb (F:=fun _=>False) N1.out) (fun _ h=>h.elim)).tr k3 (fun _ h => .inl h))
    clear p3 k3
    go_wp2
    go_roundw
    case rel=>exact⟨i,gsw dR l i j,by rw[E1.out],by omega,by have:=hD.out;rw[<- HI.out] at this;exact this,P3.out,K3.out⟩
    case measure=>simp[intOf];omega
end Go.Proofs.YtdedoeeekcfkpaaDoor
namespace Go.Proofs.YtdedoeeekcfkpaaDoor
set_option linter.unusedVariables false
set_option linter.unusedSimpArgs false
open Go.RowKit Go.Sort
structure TookE (w w':World) (R:Nat) (r s:Value) (v:Value) (l:List (It × Value)) (x:It × Value) (n:Nat) (v':Value) (l':List (It × Value)):Prop where
 at':HeE w' R r s v' l'
 len:l'.length=n
 perm:l.Perm (x::l')
 heap:HeQ dR kpE allQ l' l'.length
 own:v'.ownBlock=v.ownBlock
 kp:Kp (fun k=>k=R\/v.ownBlock=some k) w w'
theorem HeE.len {w:World} {R:Nat} {r s v:Value} {l:List (It × Value)} (h:HeE w R r s v l) (w':World) (n:Nb w w'):Calls Tryd.prog 63 #[.pointer (some ⟨R,2,none⟩)] w' fun e w2=>e = .returned (.int .i64 (l.length:Nat))/\w2=w':=hlenE_any R r s v l w' (h.nb n)
theorem hhpushE_any (R:Nat) (r s:Value) (v:Value) (l:List (It × Value)) (p:It × Value) (w:World) (h:HeE w R r s v l) (hS:SlE l) (hp1:∃ a n k,p.2 = .slice a n k) (hl:l.length+1<=1000) (hh:HeQ dR kpE allQ l l.length) :
    Calls Tryd.prog 60 #[.iface 103 (.pointer (some ⟨R,2,none⟩)),.iface 79 (.agg (enC p).toArray)] w fun e w'=>e = .returned (.tuple #[])/\∃ v' l',HeE w' R r s v' l'/\l'.Perm (l++[p])/\HeQ dR kpE allQ l' l'.length/\(∀ g,v'.ownBlock=some g->v.ownBlock=some g\/w.heap.size<=g)/\Kp (fun k=>k=R\/v.ownBlock=some k) w w':=by
 have HU:=Lib.hid (hpushE_any R r s v l p w h (by obtain⟨a,n,k,e⟩:=hp1;rw[e];rfl) hl)
 have hUp:=UpG.push dR kpE p hh
 have hlen:(l++[p]).length=l.length+1:=by simp
 have HN:=Lib.hid (fun v' w' (hp:HeE w' R r s v' (l++[p]))=>hlenE_any R r s v' _ w' hp)
 have HP:=Lib.hid (fun v' w' (hp:HeE w' R r s v' (l++[p]))=>hupE_any R r s v' (l++[p]) (l.length+1) l.length w' hp (fun q hq=>by rcases List.mem_append.1 hq with hq | hq;exact hS q hq;rw[List.mem_singleton.1 hq];exact hp1) (by omega) (by omega) (by omega) hUp)
 have mN:=mthHE_Len R
 have cN:=cfHE_Len
 have mU:=mthHE_Push R
 have cU:=cfHE_Push
 have HL:=Lib.hid hlen
 rw[hlen] at HN
 generalize (enC p).toArray=u at HU ⊢
 clear h hh hUp hlen hS hp1
 have e1:((l.length+1:Nat):Int) - 1=(l.length:Int):=by omega
 go_enter Tryd.func60,Tryd.ntmps60
 go_wp2_with fail
 refine HU.out.mono ?_
 rintro e w1 ⟨rfl,v1,p1,g1,k1⟩
 have P1:=Lib.hid p1
 have G1:=Lib.hid g1
 have K1:=Lib.hid k1
 clear p1 g1 k1
 go_wp2_with fail
 refine (HN.out v1 w1 P1.out).mono ?_
 rintro e w2 ⟨rfl,rfl⟩
 go_wp2_with fail
 refine (HP.out v1 _ P1.out).mono ?_
 rintro e w3 ⟨rfl,l2,q1,q2,q3,q4,q5,q6⟩
 have Q1:=Lib.hid q1
 have Q2:=Lib.hid (q2.trans HL.out)
 have Q3:=Lib.hid q3
 have Q5:=Lib.hid q5
 have K3:=Lib.hid (K1.out.tr q6 (fun k e=>(G1.out k e).imp .inr id))
 clear q1 q2 q3 q4 q5 q6
 go_wp2
 go_end0
 exact⟨rfl,v1,l2,Q1.out,Q3.out,by rw[Q2.out];exact Q5.out,G1.out,K3.out⟩
theorem hhpopE_any (R:Nat) (r s:Value) (v:Value) (l:List (It × Value)) (n:Nat) (w:World) (h:HeE w R r s v l) (hS:SlE l) (hn:l.length=n+1) (hl:l.length<=1000) (hh:HeQ dR kpE allQ l l.length) :
    Calls Tryd.prog 54 #[.iface 103 (.pointer (some ⟨R,2,none⟩))] w fun e w'=>e = .returned (.iface 79 (.agg (enC (l.getD 0 dR)).toArray))/\∃ v' l',TookE w w' R r s v l (l.getD 0 dR) n v' l':=by
 have HLn:=Lib.hid (fun w' (n:Nb w w')=>hlenE_any R r s v l w' (h.nb n))
 have HSw:=Lib.hid (hswapE_any R r s v l w h hS 0 n (by omega) (by omega) hl)
 have hsl:=gsw_len dR l 0 n
 have g:=gsw_get dR l (i:=0) (j:=n) (by omega) (by omega)
 have hg0:(gsw dR l 0 n).getD n dR=l.getD 0 dR:=by rw[g,if_pos rfl]
 have hperm:=gsw_perm dR l (i:=0) (j:=n) (by omega) (by omega)
 have HD:=Lib.hid (fun w' (hp:HeE w' R r s v (gsw dR l 0 n))=>hdownE_any R r s v allQ (gsw dR l 0 n) n 0 w' hp (hS.perm hperm) (by omega) (by omega) (by omega) (.inr rfl) (fun _ _ _=>trivial) (fun c h1 h2 _ h4=>by
  rw[g,if_neg (by omega),if_neg h4,g,if_neg (by omega),if_neg (by omega)]
  exact hh c h1 (by omega) trivial))
 have HP:=Lib.hid (fun w' l2 (hp:HeE w' R r s v l2) (q:l2.Perm l) (h2:l2.length=n+1)=>hpopE_any R r s v l2 n w' hp (hS.perm q) h2 (by omega))
 have HG:=Lib.hid hg0
 have HPm:=Lib.hid hperm
 have HSL:=Lib.hid hsl
 have HN:=Lib.hid hn
 have mN:=mthHE_Len R
 have cN:=cfHE_Len
 have mS:=mthHE_Swap R
 have cS:=cfHE_Swap
 have mP:=mthHE_Pop R
 have cP:=cfHE_Pop
 rw[hn] at hl
 clear h hg0 hperm hsl g hh hS
 rw[hn] at HLn
 clear hn
 go_enter Tryd.func54,Tryd.ntmps54
 go_wp2_with fail
 refine (HLn.out _ Nb.rfl).mono ?_
 rintro e w1 ⟨rfl,rfl⟩
 go_wp2_with fail
 refine HSw.out.mono ?_
 rintro e w2 ⟨rfl,p1,k1⟩
 have P1:=Lib.hid p1
 have K1:=Lib.hid k1
 clear p1 k1
 go_wp2_with fail
 refine (HD.out _ P1.out).mono ?_
 rintro e w3 ⟨b,rfl,l2,i2,q1,q2,q3,q4,q5,q6⟩
 have Q1:=Lib.hid q1
 have Q2:=Lib.hid ((q2.len.trans HSL.out).trans HN.out)
 have Q3:=Lib.hid (q2.perm.trans HPm.out)
 have Q4:=Lib.hid ((q2.rest n (Nat.le_refl _)).trans HG.out)
 have Q5:=Lib.hid q4
 have K2:=Lib.hid (K1.out.tr q6 (fun _ h => .inl h))
 clear q1 q2 q3 q4 q5 q6
 go_wp2_with fail
 refine (HP.out _ l2 Q1.out Q3.out Q2.out).mono ?_
 rintro e w4 ⟨rfl,v4,p3,o3,k3⟩
 have P3:=Lib.hid p3
 have O3:=Lib.hid o3
 have LO:=Lib.hid (glast_of dR Q2.out)
 generalize l2.getD n dR=pe at Q4 LO ⊢
 have K3:=Lib.hid ((K2.out.mono (F':=fun k=>k=R\/v.ownBlock=some k) (fun _ _ h => .inr h)).tr k3 (fun _ h => .inl h))
 clear p3 o3 k3
 go_wp2
 go_ret
 have hlen:(l2.take n).length=n:=by rw[List.length_take,Q2.out];omega
 refine⟨by rw[Q4.out];rfl,v4,l2.take n,⟨P3.out,hlen,?_,?_,O3.out,K3.out⟩⟩
 ·have e:=LO.out
  rw[Q4.out] at e
  have h1:=Q3.out.symm
  rw[e] at h1
  exact h1.trans List.perm_append_comm
 ·exact gtake_heap dR kpE Q5.out (by have:=Q2.out;omega)
theorem hhremE_any (R:Nat) (r s:Value) (v:Value) (l:List (It × Value)) (n i:Nat) (w:World) (h:HeE w R r s v l) (hS:SlE l) (hn:l.length=n+1) (hi:i<=n) (hl:l.length<=1000) (hh:HeQ dR kpE allQ l l.length) :
    Calls Tryd.prog 57 #[.iface 103 (.pointer (some ⟨R,2,none⟩)),.int .i64 (i:Nat)] w fun e w'=>(∃ u,e = .returned u)/\∃ v' l',TookE w w' R r s v l (l.getD i dR) n v' l':=by
 have HLn:=Lib.hid (fun w' (n:Nb w w')=>hlenE_any R r s v l w' (h.nb n))
 have HP:=Lib.hid (fun w' l2 (hp:HeE w' R r s v l2) (q:l2.Perm l) (h2:l2.length=n+1)=>hpopE_any R r s v l2 n w' hp (hS.perm q) h2 (by omega))
 have HN:=Lib.hid hn
 have mN:=mthHE_Len R
 have cN:=cfHE_Len
 have mS:=mthHE_Swap R
 have cS:=cfHE_Swap
 have mP:=mthHE_Pop R
 have cP:=cfHE_Pop
 rw[hn] at HLn
 by_cases hin:i=n
 ·subst hin
  have H:=Lib.hid h
  have HH:=Lib.hid hh
  have i1:i<=999:=by omega
  have d1:((i:Int) != (i:Int))=false:=by simp
  clear h hh hS hn
  go_enter Tryd.func57,Tryd.ntmps57
  go_wp2_with fail
  refine (HLn.out _ Nb.rfl).mono ?_
  rintro e w1 ⟨rfl,rfl⟩
  go_wp2_with fail
  refine (HP.out _ l H.out (List.Perm.refl _) HN.out).mono ?_
  rintro e w4 ⟨rfl,v4,p3,o3,k3⟩
  have P3:=Lib.hid p3
  have O3:=Lib.hid o3
  have K3:=Lib.hid k3
  have LO:=Lib.hid (show l.Perm (l.getD i dR::l.take i) from by
   conv=>lhs;rw[glast_of dR HN.out]
   exact List.perm_append_comm)
  clear p3 o3 k3
  generalize (enC (l.getD i dR)).toArray=pe
  go_wp2
  go_ret
  exact⟨⟨_,rfl⟩,v4,l.take i,⟨P3.out,by rw[List.length_take,HN.out];omega,LO.out,gtake_heap dR kpE (HH.out.less dR kpE (by have:=HN.out;omega)) (by have:=HN.out;omega),O3.out,K3.out⟩⟩
 ·have hin':i < n:=by omega
  have HSw:=Lib.hid (hswapE_any R r s v l w h hS i n (by omega) (by omega) hl)
  have hsl:=gsw_len dR l i n
  have g:=gsw_get dR l (i:=i) (j:=n) (by omega) (by omega)
  have hg0:(gsw dR l i n).getD n dR=l.getD i dR:=by rw[g,if_pos rfl]
  have hperm:=gsw_perm dR l (i:=i) (j:=n) (by omega) (by omega)
  obtain⟨r1,r2⟩:=gsw_rem dR kpE hh hn hin'
  have HD:=Lib.hid (fun w' (hp:HeE w' R r s v (gsw dR l i n))=>hdownE_any R r s v (fun c=>c≠i) (gsw dR l i n) n i w' hp (hS.perm hperm) (by omega) (by omega) (by omega) (.inl (fun q=>q rfl)) (fun c h1 h2=>by omega) r1)
  have HUp:=Lib.hid (fun w' (hp:HeE w' R r s v (gsw dR l i n)) (hu:UpG dR kpE (gsw dR l i n) (gsw dR l i n) n i)=>hupE_any R r s v (gsw dR l i n) n i w' hp (hS.perm hperm) (by omega) (by omega) hin' hu)
  have HG:=Lib.hid hg0
  have HPm:=Lib.hid hperm
  have HSL:=Lib.hid hsl
  have R2:=Lib.hid r2
  have d1:((n:Int) != (i:Int))=true:=by simp;omega
  have n1:n<=999:=by omega
  have LAST:=Lib.hid (show ∀ (w4:World) (v4:Value) (l2:List (It × Value)),l2.length=n+1->l2.Perm l->l2.getD n dR=l.getD i dR->HeQ dR kpE allQ l2 n->HeE w4 R r s v4 (l2.take n)->v4.ownBlock=v.ownBlock->Kp (fun k=>k=R\/v.ownBlock=some k) w w4->TookE w w4 R r s v l (l.getD i dR) n v4 (l2.take n) from fun w4 v4 l2 h1 h2 h3 h4 h5 h6 h7=>by
   have e:=glast_of dR h1
   rw[h3] at e
   refine⟨h5,by rw[List.length_take,h1];omega,?_,gtake_heap dR kpE h4 (by omega),h6,h7⟩
   have q:=h2.symm
   rw[e] at q
   exact q.trans List.perm_append_comm)
  clear h hg0 hperm hsl g hh r1 r2 hn hS
  generalize l.getD i dR=pe at HG LAST ⊢
  generalize gsw dR l i n=l1 at *
  go_enter Tryd.func57,Tryd.ntmps57
  go_wp2_with fail
  refine (HLn.out _ Nb.rfl).mono ?_
  rintro e w1 ⟨rfl,rfl⟩
  go_wp2_with fail
  refine HSw.out.mono ?_
  rintro e w2 ⟨rfl,p1,k1⟩
  have P1:=Lib.hid p1
  have K1:=Lib.hid k1
  clear p1 k1
  go_wp2_with fail
  refine (HD.out _ P1.out).mono ?_
  rintro e w3 ⟨b,rfl,l2,i2,q1,q2,q3,q4,q5,q6⟩
  have Q1:=Lib.hid q1
  have Q2:=Lib.hid q2
  have Q4:=Lib.hid q4
  have K2:=Lib.hid (K1.out.tr q6 (fun _ h => .inl h))
  have hb:=q5
  clear q1 q2 q3 q4 q5 q6
  cases b with
  | true =>
    have hi2:i < i2:=by simpa using hb.symm
    have HF:=Lib.hid (rem_down dR kpE Q4.out Q2.out.low (Q2.out.top hi2).2 R2.out)
    clear hb
    go_wp2_with fail
    refine (HP.out _ l2 Q1.out (Q2.out.perm.trans HPm.out) ((Q2.out.len.trans HSL.out).trans HN.out)).mono ?_
    rintro e w4 ⟨rfl,v4,p3,o3,k3⟩
    have FIN:=Lib.hid (LAST.out w4 v4 l2 ((Q2.out.len.trans HSL.out).trans HN.out) (Q2.out.perm.trans HPm.out) ((Q2.out.rest n (Nat.le_refl _)).trans HG.out) HF.out p3 o3 ((K2.out.mono (F':=fun k=>k=R\/v.ownBlock=some k) (fun _ _ h => .inr h)).tr k3 (fun _ h => .inl h)))
    clear p3 o3 k3
    generalize l2.getD n dR=pf
    go_wp2
    go_ret
    exact⟨⟨_,rfl⟩,v4,_,FIN.out⟩
  | false =>
    have hi2:i2=i:=by
     have h1:¬i < i2:=by simpa using hb.symm
     have:=Q2.out.from0
     omega
    have hl2:=Q2.out.stay hi2
    subst hl2
    have HU:=Lib.hid (HUp.out _ Q1.out (rem_up dR kpE Q4.out R2.out))
    clear hb
    go_wp2_with fail
    refine HU.out.mono ?_
    rintro e w5 ⟨rfl,l3,q1,q2,q3,q4,q5,q6⟩
    have Q1b:=Lib.hid q1
    have Q2b:=Lib.hid ((q2.trans HSL.out).trans HN.out)
    have Q3b:=Lib.hid (q3.trans HPm.out)
    have Q4b:=Lib.hid ((q4 n (Nat.le_refl _)).trans HG.out)
    have Q5b:=Lib.hid q5
    have K2b:=Lib.hid (K2.out.tr q6 (fun _ h => .inl h))
    clear q1 q2 q3 q4 q5 q6
    go_wp2_with fail
    refine (HP.out _ l3 Q1b.out Q3b.out Q2b.out).mono ?_
    rintro e w4 ⟨rfl,v4,p3,o3,k3⟩
    have FIN:=Lib.hid (LAST.out w4 v4 l3 Q2b.out Q3b.out Q4b.out Q5b.out p3 o3 ((K2b.out.mono (F':=fun k=>k=R\/v.ownBlock=some k) (fun _ _ h => .inr h)).tr k3 (fun _ h => .inl h)))
    clear p3 o3 k3
    generalize l3.getD n dR=pf
    go_wp2
    go_ret
    exact⟨⟨_,rfl⟩,v4,_,FIN.out⟩
end Go.Proofs.YtdedoeeekcfkpaaDoor
