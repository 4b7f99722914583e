/- The sizes of a kind's data, their codes, and what of them follows. No program here. No conditions. Contracts of package frame's sizes: the places' methods, at, sort.Search, fit, sizesOf. Condition: the table of longer sizes holds what the program's text lays there. Contracts of package frame's fit, sizesOf, Code, Size and Fit. Condition: the table of longer sizes holds what the program's text lays there. Contracts of the document's Size, Code and Fit. No conditions. -/
import Derived.Test.YtlmbggmamemmjaaDoorGa
import Derived.Deep.RegionHeld3
import Derived.Laws.EntriesVeiled
set_option maxHeartbeats 1600000
set_option maxRecDepth 100000
namespace Go.Proofs.YtlmbggmamemmjaaDoor
set_option linter.unusedVariables false
set_option linter.unusedSimpArgs false
open Go.RowKit
def cntF (k:Int):Nat:=if k=1 then 9 else if k=2 then 16 else if k=3 then 2048 else 0
def longF (c:Nat):Nat:=if c=0 then 12 else if c=1 then 16 else if c=2 then 20 else if c=3 then 24 else if c=4 then 32 else if c=5 then 48 else 64
def atF (k:Int) (c:Nat):Nat:=if k=3 then c+1 else if c < 9 then c else longF (c - 9)
def fitF (k s:Int):Nat :=
 if k=1 then (if s<=0 then 0 else if s<=8 then s.toNat else 9)
 else if k=2 then (if s<=0 then 0 else if s<=8 then s.toNat else if s<=12 then 9 else if s<=16 then 10 else if s<=20 then 11 else if s<=24 then 12 else if s<=32 then 13 else if s<=48 then 14 else if s<=64 then 15 else 16)
 else if k=3 then (if s<=1 then 0 else if s<=2048 then (s - 1).toNat else 2048)
 else 0
theorem kind_cases (k:Int):(k=1\/k=2\/k=3)\/(k≠1/\k≠2/\k≠3):=by omega
theorem cntF_le (k:Int):cntF k<=2048:=by unfold cntF;(repeat' split)<;>omega
theorem at1 (c:Nat) (h:c < 9):atF 1 c=c:=by simp[atF,h]
theorem at3 (c:Nat):atF 3 c=c+1:=by simp[atF]
theorem at2 (c:Nat) (h:c < 16):(c < 9/\atF 2 c=c)\/(c=9/\atF 2 c=12)\/(c=10/\atF 2 c=16)\/(c=11/\atF 2 c=20)\/(c=12/\atF 2 c=24)\/(c=13/\atF 2 c=32)\/(c=14/\atF 2 c=48)\/(c=15/\atF 2 c=64):=by
 by_cases h9:c < 9
 ·exact .inl ⟨h9,by simp[atF,h9]⟩
 ·rcases (by omega:c=9\/c=10\/c=11\/c=12\/c=13\/c=14\/c=15) with rfl | rfl | rfl | rfl | rfl | rfl | rfl<;>decide
theorem fit1 (s:Int):(s<=0/\fitF 1 s=0)\/(0 < s/\s<=8/\(fitF 1 s:Int)=s)\/(8 < s/\fitF 1 s=9):=by
 rcases (by omega:s<=0\/(0 < s/\s<=8)\/8 < s) with h | h | h
 ·exact .inl ⟨h,by simp[fitF,h]⟩
 ·exact .inr (.inl ⟨h.1, h.2, by have h0:¬s<=0:=by omega
                                 have h1:=h.2
                                 simp only[fitF,if_true,if_neg h0,if_pos h1];omega⟩)
 ·exact .inr (.inr ⟨h, by have h0:¬s<=0:=by omega
                          have h1:¬s<=8:=by omega
                          simp only[fitF,if_true,if_neg h0,if_neg h1]⟩)
theorem fit2 (s:Int):(s<=0/\fitF 2 s=0)\/(0 < s/\s<=8/\(fitF 2 s:Int)=s)\/(8 < s/\s<=12/\fitF 2 s=9)\/(12 < s/\s<=16/\fitF 2 s=10)\/(16 < s/\s<=20/\fitF 2 s=11)\/(20 < s/\s<=24/\fitF 2 s=12)\/(24 < s/\s<=32/\fitF 2 s=13)\/(32 < s/\s<=48/\fitF 2 s=14)\/(48 < s/\s<=64/\fitF 2 s=15)\/(64 < s/\fitF 2 s=16):=by
 have e:(2:Int)=1↔False:=by decide
 rcases (by omega:s<=0\/(0 < s/\s<=8)\/(8 < s/\s<=12)\/(12 < s/\s<=16)\/(16 < s/\s<=20)\/(20 < s/\s<=24)\/(24 < s/\s<=32)\/(32 < s/\s<=48)\/(48 < s/\s<=64)\/64 < s) with h | h | h | h | h | h | h | h | h | h
 ·have k0:s<=0:=by omega
  have hf:fitF 2 s=0:=by simp only[fitF,e,if_false,if_true,if_pos k0]
  omega
 ·have k0:¬s<=0:=by omega
  have k1:s<=8:=by omega
  have hf:(fitF 2 s:Int)=s:=by simp only[fitF,e,if_false,if_true,if_neg k0,if_pos k1];omega
  omega
 ·have k0:¬s<=0:=by omega
  have k1:¬s<=8:=by omega
  have k2:s<=12:=by omega
  have hf:fitF 2 s=9:=by simp only[fitF,e,if_false,if_true,if_neg k0,if_neg k1,if_pos k2]
  omega
 ·have k0:¬s<=0:=by omega
  have k1:¬s<=8:=by omega
  have k2:¬s<=12:=by omega
  have k3:s<=16:=by omega
  have hf:fitF 2 s=10:=by simp only[fitF,e,if_false,if_true,if_neg k0,if_neg k1,if_neg k2,if_pos k3]
  omega
 ·have k0:¬s<=0:=by omega
  have k1:¬s<=8:=by omega
  have k2:¬s<=12:=by omega
  have k3:¬s<=16:=by omega
  have k4:s<=20:=by omega
  have hf:fitF 2 s=11:=by simp only[fitF,e,if_false,if_true,if_neg k0,if_neg k1,if_neg k2,if_neg k3,if_pos k4]
  omega
 ·have k0:¬s<=0:=by omega
  have k1:¬s<=8:=by omega
  have k2:¬s<=12:=by omega
  have k3:¬s<=16:=by omega
  have k4:¬s<=20:=by omega
  have k5:s<=24:=by omega
  have hf:fitF 2 s=12:=by simp only[fitF,e,if_false,if_true,if_neg k0,if_neg k1,if_neg k2,if_neg k3,if_neg k4,if_pos k5]
  omega
 ·have k0:¬s<=0:=by omega
  have k1:¬s<=8:=by omega
  have k2:¬s<=12:=by omega
  have k3:¬s<=16:=by omega
  have k4:¬s<=20:=by omega
  have k5:¬s<=24:=by omega
  have k6:s<=32:=by omega
  have hf:fitF 2 s=13:=by simp only[fitF,e,if_false,if_true,if_neg k0,if_neg k1,if_neg k2,if_neg k3,if_neg k4,if_neg k5,if_pos k6]
  omega
 ·have k0:¬s<=0:=by omega
  have k1:¬s<=8:=by omega
  have k2:¬s<=12:=by omega
  have k3:¬s<=16:=by omega
  have k4:¬s<=20:=by omega
  have k5:¬s<=24:=by omega
  have k6:¬s<=32:=by omega
  have k7:s<=48:=by omega
  have hf:fitF 2 s=14:=by simp only[fitF,e,if_false,if_true,if_neg k0,if_neg k1,if_neg k2,if_neg k3,if_neg k4,if_neg k5,if_neg k6,if_pos k7]
  omega
 ·have k0:¬s<=0:=by omega
  have k1:¬s<=8:=by omega
  have k2:¬s<=12:=by omega
  have k3:¬s<=16:=by omega
  have k4:¬s<=20:=by omega
  have k5:¬s<=24:=by omega
  have k6:¬s<=32:=by omega
  have k7:¬s<=48:=by omega
  have k8:s<=64:=by omega
  have hf:fitF 2 s=15:=by simp only[fitF,e,if_false,if_true,if_neg k0,if_neg k1,if_neg k2,if_neg k3,if_neg k4,if_neg k5,if_neg k6,if_neg k7,if_pos k8]
  omega
 ·have k0:¬s<=0:=by omega
  have k1:¬s<=8:=by omega
  have k2:¬s<=12:=by omega
  have k3:¬s<=16:=by omega
  have k4:¬s<=20:=by omega
  have k5:¬s<=24:=by omega
  have k6:¬s<=32:=by omega
  have k7:¬s<=48:=by omega
  have k8:¬s<=64:=by omega
  have hf:fitF 2 s=16:=by simp only[fitF,e,if_false,if_true,if_neg k0,if_neg k1,if_neg k2,if_neg k3,if_neg k4,if_neg k5,if_neg k6,if_neg k7,if_neg k8]
  omega
theorem fit3 (s:Int):(s<=1/\fitF 3 s=0)\/(1 < s/\s<=2048/\(fitF 3 s:Int)=s - 1)\/(2048 < s/\fitF 3 s=2048):=by
 have e:(3:Int)=1↔False:=by decide
 have e2:(3:Int)=2↔False:=by decide
 rcases (by omega:s<=1\/(1 < s/\s<=2048)\/2048 < s) with h | h | h
 ·have hf:fitF 3 s=0:=by simp only[fitF,e,e2,if_false,if_true,if_pos h]
  omega
 ·have k0:¬s<=1:=by omega
  have hf:(fitF 3 s:Int)=s - 1:=by simp only[fitF,e,e2,if_false,if_true,if_neg k0,if_pos h.2];omega
  omega
 ·have k0:¬s<=1:=by omega
  have k1:¬s<=2048:=by omega
  have hf:fitF 3 s=2048:=by simp only[fitF,e,e2,if_false,if_true,if_neg k0,if_neg k1]
  omega
theorem fitF_le (k s:Int):fitF k s<=cntF k:=by
 rcases kind_cases k with (rfl | rfl | rfl) | ⟨h1,h2,h3⟩
 ·have:=fit1 s
  show fitF 1 s<=9
  omega
 ·have:=fit2 s
  show fitF 2 s<=16
  omega
 ·have:=fit3 s
  show fitF 3 s<=2048
  omega
 ·simp[fitF,h1,h2,h3]
theorem fit_iff (k s:Int) (c:Nat) (h:c < cntF k):s<=(atF k c:Int)↔fitF k s<=c:=by
 rcases kind_cases k with (rfl | rfl | rfl) | ⟨h1,h2,h3⟩
 ·have hc:c < 9:=h
  have:=at1 c hc
  have:=fit1 s
  omega
 ·have hc:c < 16:=h
  have:=at2 c hc
  have:=fit2 s
  omega
 ·have hc:c < 2048:=h
  have:=at3 c
  have:=fit3 s
  omega
 ·simp[cntF,h1,h2,h3] at h
theorem fit_dec (k s:Int) (c:Nat) (h:c < cntF k):decide (s<=(atF k c:Int))=decide (fitF k s<=c):=by
 have:=fit_iff k s c h
 by_cases h1:fitF k s<=c
 ·simp[h1,this.2 h1]
 ·have h2:¬s<=(atF k c:Int):=fun h2=>h1 (this.1 h2)
  rw[decide_eq_false h1,decide_eq_false h2]
theorem atF_lt (k:Int) (c:Nat) (h:c < cntF k):atF k c<=2048:=by
 rcases kind_cases k with (rfl | rfl | rfl) | ⟨h1,h2,h3⟩
 ·have hc:c < 9:=h
  have:=at1 c hc
  omega
 ·have hc:c < 16:=h
  have:=at2 c hc
  omega
 ·have hc:c < 2048:=h
  have:=at3 c
  omega
 ·simp[cntF,h1,h2,h3] at h
def hasF (k s:Int):Bool:=decide (fitF k s < cntF k)&&decide ((atF k (fitF k s):Int)=s)
def codeV (k s:Int):Nat:=if hasF k s then fitF k s else 0
def codeE (k s:Int):Nat:=if hasF k s then 0 else 2
def isC (k c:Int):Bool:=decide (0<=c)&&decide (c < (cntF k:Int))
def sizeV (k c:Int):Nat:=if isC k c then atF k c.toNat else 0
def sizeE (k c:Int):Nat:=if isC k c then 0 else 2
def fitsF (k s:Int):Bool:=decide (0<=s)&&decide (fitF k s < cntF k)
def fitV (k s:Int):Nat:=if fitsF k s then atF k (fitF k s) else 0
def fitE (k s:Int):Nat:=if fitsF k s then 0 else 2
theorem hasF_iff (k s:Int):hasF k s=true↔fitF k s < cntF k/\(atF k (fitF k s):Int)=s:=by simp[hasF]
theorem isC_iff (k c:Int):isC k c=true↔0<=c/\c < (cntF k:Int):=by simp[isC]
theorem fitsF_iff (k s:Int):fitsF k s=true↔0<=s/\fitF k s < cntF k:=by simp[fitsF]
theorem isC_nat (k:Int) (c:Nat):isC k c=true↔c < cntF k:=by rw[isC_iff];omega
theorem code_at (k:Int) (c:Nat) (h:c < cntF k):fitF k (atF k c)=c:=by
 have h1:=(fit_iff k (atF k c) c h).1 (Int.le_refl _)
 rcases Nat.lt_or_eq_of_le h1 with h2 | h2
 ·exfalso
  have h3:fitF k (atF k c) < cntF k:=by omega
  have h4:=(fit_iff k (atF k c) _ h3).2 (Nat.le_refl _)
  rcases kind_cases k with (rfl | rfl | rfl) | ⟨h1,h2,h3⟩
  ·have:=at1 c h;have:=at1 _ h3;omega
  ·have:=at2 c h;have:=at2 _ h3;omega
  ·have:=at3 c;have:=at3 (fitF 3 (atF 3 c));omega
  ·simp[cntF,h1,h2,h3] at h
 ·exact h2
theorem has_at (k:Int) (c:Nat) (h:c < cntF k):hasF k (atF k c)=true:=by
 rw[hasF_iff,code_at k c h];exact⟨h,rfl⟩
theorem code_hit (k s:Int) (c:Nat) (h:isC k c=true) (hs:(sizeV k c:Int)=s):codeV k s=c/\codeE k s=0:=by
 have hc:=(isC_nat k c).1 h
 simp only[sizeV,h,if_true,Int.toNat_natCast] at hs
 subst hs
 simp[codeV,codeE,has_at k c hc,code_at k c hc]
theorem code_none (k s:Int) (h:∀ c:Nat,c < 2048->¬(isC k c=true/\(sizeV k c:Int)=s)):codeV k s=0/\codeE k s=2:=by
 cases hh:hasF k s with
 | false=>simp[codeV,codeE,hh]
 | true =>
   obtain⟨h1,h2⟩:=(hasF_iff k s).1 hh
   have:=cntF_le k
   exact absurd ⟨(isC_nat k _).2 h1,by simp only[sizeV,(isC_nat k _).2 h1,if_true,Int.toNat_natCast];exact h2⟩ (h _ (by omega))
theorem fit_hit (k s:Int) (c:Nat) (h0:0<=s) (h:isC k c=true) (hs:s<=(sizeV k c:Int)) (hn:∀ j:Nat,j < c->¬(isC k j=true/\s<=(sizeV k j:Int))):fitV k s=sizeV k c/\fitE k s=0:=by
 have hc:=(isC_nat k c).1 h
 have e1:sizeV k c=atF k c:=by simp only[sizeV,h,if_true,Int.toNat_natCast]
 rw[e1] at hs ⊢
 have h1:=(fit_iff k s c hc).1 hs
 have h2:fitF k s=c:=by
  rcases Nat.lt_or_eq_of_le h1 with h2 | h2
  ·have h3:fitF k s < cntF k:=by omega
   refine absurd ⟨(isC_nat k _).2 h3,?_⟩ (hn _ h2)
   simp only[sizeV,(isC_nat k _).2 h3,if_true,Int.toNat_natCast]
   exact (fit_iff k s _ h3).2 (Nat.le_refl _)
  ·exact h2
 have h3:fitsF k s=true:=(fitsF_iff k s).2 ⟨h0,by omega⟩
 simp[fitV,fitE,h3,h2]
theorem fit_none (k s:Int) (h:∀ c:Nat,c < 2048->¬(isC k c=true/\s<=(sizeV k c:Int))):fitV k s=0/\fitE k s=2:=by
 cases hh:fitsF k s with
 | false=>simp[fitV,fitE,hh]
 | true =>
   obtain⟨_,h1⟩:=(fitsF_iff k s).1 hh
   have:=cntF_le k
   refine absurd ⟨(isC_nat k _).2 h1,?_⟩ (h _ (by omega))
   simp only[sizeV,(isC_nat k _).2 h1,if_true,Int.toNat_natCast]
   exact (fit_iff k s _ h1).2 (Nat.le_refl _)
end Go.Proofs.YtlmbggmamemmjaaDoor
namespace Go.Proofs.YtlmbggmamemmjaaDoor
set_option linter.unusedVariables false
set_option linter.unusedSimpArgs false
open Go.RowKit
def Longer (w:World):Prop:=∀ c:Nat,c < 7->w.cell? ⟨0,c,none⟩=some (.int .i64 (longF c:Nat))
theorem Longer.below {w w':World} (h:Longer w) (hb:Nb w w'):Longer w':=fun c hc=>by
 have:=h c hc
 rw[hb.cell (p:=⟨0,c,none⟩) (World.block_lt_of_cell? _ _ this)]
 exact this
theorem Longer.pos {w:World} (h:Longer w):0 < w.heap.size:=by
 have:=World.block_lt_of_cell? _ _ (h 0 (by decide))
 exact Nat.lt_of_le_of_lt (Nat.zero_le _) this
def ofV (k:Int):Value:=if k=1 then .func (.func 41) #[] #[] else if k=2 then .func (.func 42) #[] #[] else if k=3 then .func (.func 43) #[] #[] else .nilFunc
theorem classic_any (c:Nat) (w:World) :
    Calls Tryd.prog 41 #[.int .i64 c] w fun e w'=>e = .returned (.int .i64 c)/\w=w':=by
 go_enter Tryd.func41,Tryd.ntmps41
 go_wp2
 go_ret
 exact⟨rfl,rfl⟩
theorem xl_any (c:Nat) (w:World) (hc:c < 2048) :
    Calls Tryd.prog 43 #[.int .i64 c] w fun e w'=>e = .returned (.int .i64 (c+1:Nat))/\w=w':=by
 go_enter Tryd.func43,Tryd.ntmps43
 go_wp2
 go_ret
 exact⟨rfl,rfl⟩
theorem fd_any (c:Nat) (w:World) (hc:c < 16) (hl:Longer w) :
    Calls Tryd.prog 42 #[.int .i64 c] w fun e w'=>e = .returned (.int .i64 (atF 2 c:Nat))/\w=w':=by
 have hp:=hl.pos
 by_cases h9:c < 9
 ·have e:atF 2 c=c:=by simp[atF,h9]
  rw[e]
  clear e hl
  go_enter Tryd.func42,Tryd.ntmps42
  go_wp2
  go_ret
  exact⟨rfl,rfl⟩
 ·obtain⟨d,rfl⟩:∃ d,c=9+d:=⟨c - 9,by omega⟩
  have e:atF 2 (9+d)=longF d:=by
   unfold atF
   rw[if_neg (by decide),if_neg h9,Nat.add_sub_cancel_left]
  rw[e]
  have hd:d < 7:=by omega
  have c0:=hl d hd
  generalize longF d=x at c0 ⊢
  have hw:IntKind.i64.wrap (((9+d:Nat):Int) - 9)=(d:Int):=by rw[IntWalk.i64_in _ (by omega)];omega
  clear e hl h9
  go_enter Tryd.func42,Tryd.ntmps42
  go_wp2
  go_ret
  exact⟨rfl,rfl⟩
theorem at_any (k:Int) (c:Nat) (w:World) (hc:c < cntF k) (hl:Longer w) :
    Calls Tryd.prog 39 #[.agg #[.int .i64 (cntF k:Nat),ofV k],.int .i64 c] w fun e w'=>e = .returned (.int .i64 (atF k c:Nat))/\Nb w w':=by
 have HL:=Lib.hid hl
 clear hl
 rcases kind_cases k with (rfl | rfl | rfl) | ⟨h1,h2,h3⟩
 ·have hc9:c < 9:=hc
  have ev:ofV 1 = .func (.func 41) #[] #[]:=by rfl
  rw[at1 c hc9,ev]
  clear hc ev
  go_enter Tryd.func39,Tryd.ntmps39
  go_wp2_with fail
  refine (classic_any c _).mono ?_
  rintro e w1 ⟨rfl,rfl⟩
  go_wp2
  go_ret
  exact⟨rfl,Nb.rfl.al _⟩
 ·have hc16:c < 16:=hc
  have ev:ofV 2 = .func (.func 42) #[] #[]:=by rfl
  rw[ev]
  clear hc ev
  go_enter Tryd.func39,Tryd.ntmps39
  go_wp2_with fail
  refine (fd_any c _ hc16 (HL.out.below (Nb.rfl.al _))).mono ?_
  rintro e w1 ⟨rfl,rfl⟩
  go_wp2
  go_ret
  exact⟨rfl,Nb.rfl.al _⟩
 ·have hc2:c < 2048:=hc
  have ev:ofV 3 = .func (.func 43) #[] #[]:=by rfl
  rw[at3,ev]
  clear hc ev
  go_enter Tryd.func39,Tryd.ntmps39
  go_wp2_with fail
  refine (xl_any c _ hc2).mono ?_
  rintro e w1 ⟨rfl,rfl⟩
  go_wp2
  go_ret
  exact⟨rfl,Nb.rfl.al _⟩
 ·simp[cntF,h1,h2,h3] at hc
theorem search_any (F:Nat) (p2 p3:Value) (n T:Nat) (w:World) (hn:n<=4611686018427387903) (hT:T<=n)
    (hcf:∀ args w,(callFunc F args).run Tryd.prog w = .ok (.enter F args) w)
    (hstep:∀ (c:Nat) w',c < n->Nb w w'->Calls Tryd.prog F #[.int .i64 c,p2,p3] w' fun e w''=>e = .returned (.bool (decide (T<=c)))/\Nb w' w'') :
    Calls Tryd.prog 44 #[.int .i64 n,.func (.func F) #[] #[p2,p3]] w fun e w'=>e = .returned (.int .i64 T)/\Nb w w':=by
 have HS:=Lib.hid hstep
 clear hstep
 go_enter Tryd.func44,Tryd.ntmps44
 go_wp2
 go_loopw [5,6] (fun v i wr=>∃ lo hi:Nat,v = .int .i64 lo/\i = .int .i64 hi/\lo<=T/\T<=hi/\hi<=n/\Nb w wr) (fun v i _=>(intOf i).toNat - (intOf v).toNat)
 case atStart=>exact⟨0,n,rfl,rfl,Nat.zero_le _,hT,Nat.le_refl _,Nb.rfl⟩
 case round =>
  obtain⟨lo,hi,rfl,rfl,h1,h2,h3,hnb⟩:=hrel
  by_cases hlt:lo < hi
  ·obtain⟨m,hm⟩:∃ m,m=(lo+hi) / 2:=⟨_,rfl⟩
   have hm1:lo<=m:=by omega
   have hm2:m < hi:=by omega
   have hmi:((lo:Int)+(hi:Int)) / 2=(m:Int):=by omega
   by_cases hd:T<=m
   ·have hs:=HS.out m wr (by omega) hnb
    rw[decide_eq_true hd] at hs
    have H2:=Lib.hid hs
    clear hs hm
    go_wp2_with fail
    refine H2.out.mono ?_
    rintro e w2 ⟨rfl,n2⟩
    go_wp2
    go_roundw
    case rel=>exact⟨lo,m,rfl,rfl,h1,hd,by omega,hnb.tr n2⟩
    case measure=>simp[intOf];omega
   ·have hs:=HS.out m wr (by omega) hnb
    rw[decide_eq_false hd] at hs
    have H2:=Lib.hid hs
    clear hs hm
    go_wp2_with fail
    refine H2.out.mono ?_
    rintro e w2 ⟨rfl,n2⟩
    go_wp2
    go_roundw
    case rel=>exact⟨m+1,hi,by go_num,rfl,by omega,h2,h3,hnb.tr n2⟩
    case measure=>simp[intOf];omega
  ·obtain rfl:hi=lo:=by omega
   obtain rfl:T=hi:=by omega
   go_wp2
   go_ret
   exact⟨rfl,hnb⟩
end Go.Proofs.YtlmbggmamemmjaaDoor
namespace Go.Proofs.YtlmbggmamemmjaaDoor
set_option linter.unusedVariables false
set_option linter.unusedSimpArgs false
open Go.RowKit
theorem Blk.one {w:World} {R:Nat} {u0:Value} {t:TypeId} (h:Blk w R #[u0] t):w.cell? ⟨R,0,none⟩=some u0:=h.cell 0
theorem Blk.two {w:World} {R:Nat} {u0 u1:Value} {t:TypeId} (h:Blk w R #[u0,u1] t):w.cell? ⟨R,0,none⟩=some u0/\w.cell? ⟨R,1,none⟩=some u1:=⟨h.cell 0,h.cell 1⟩
theorem fitlit_any (k s:Int) (c b2 b3:Nat) (w:World) (hc:c < cntF k) (hl:Longer w)
    (h2:Blk w b2 #[.int .i64 (cntF k:Nat),ofV k] 72) (h3:Blk w b3 #[.int .i64 s] 3) :
    Calls Tryd.prog 45 #[.int .i64 c,.pointer (some ⟨b2,0,none⟩),.pointer (some ⟨b3,0,none⟩)] w fun e w'=>e = .returned (.bool (decide (fitF k s<=c)))/\Nb w w':=by
 have hd:=fit_dec k s c hc
 have hat:∀ w',Nb w w'->Calls Tryd.prog 39 #[.agg #[.int .i64 (cntF k:Nat),ofV k],.int .i64 c] w' fun e w''=>e = .returned (.int .i64 (atF k c:Nat))/\Nb w' w'':=fun w' hn=>at_any k c w' hc (hl.below hn)
 have HD:=Lib.hid hd
 have HA:=Lib.hid hat
 obtain⟨c0,c1⟩:=h2.two
 have c2:=h3.one
 have H2:=Lib.hid h2
 have H3:=Lib.hid h3
 generalize ofV k=o at *
 generalize cntF k=n at *
 generalize fitF k s=T at *
 generalize atF k c=y at *
 clear hd hat hl h2 h3
 go_enter Tryd.func45,Tryd.ntmps45
 go_wp2_with fail
 go_region_held3 (fun w'=>w'.cell? ⟨b2,0,none⟩=some (.int .i64 (n:Nat))/\w'.cell? ⟨b2,1,none⟩=some o/\w'.cell? ⟨b3,0,none⟩=some (.int .i64 s)) (first | go_keep | exact⟨(H2.out.nb (Nb.tr (Below.drew (Below.refl _ _):Nb w w.drew) n6)).cell 0,(H2.out.nb (Nb.tr (Below.drew (Below.refl _ _):Nb w w.drew) n6)).cell 1,(H3.out.nb (Nb.tr (Below.drew (Below.refl _ _):Nb w w.drew) n6)).cell 0⟩) ((go_at_call 39;refine (HA.out _ (Below.drew (Below.refl _ _):Nb w w.drew)).mono ?_;rintro e w6 ⟨rfl,n6⟩))
 all_goals go_wp2
 all_goals go_ret
 all_goals exact⟨by rw[<- HD.out];rfl,Nb.tr (Below.drew (Below.refl _ _):Nb w w.drew) n6⟩
theorem fitM_any (k s:Int) (w:World) (hl:Longer w) :
    Calls Tryd.prog 38 #[.agg #[.int .i64 (cntF k:Nat),ofV k],.int .i64 s] w fun e w'=>e = .returned (.int .i64 (fitF k s:Nat))/\Nb w w':=by
 obtain⟨w1,hw1⟩:∃ w1,w1=(w.alloc (.cells #[.int .i64 (cntF k:Nat),ofV k] 72)).alloc (.cells #[.int .i64 s] 3):=⟨_,rfl⟩
 have nb1:Nb w w1:=by rw[hw1];exact (Nb.rfl.al _).al _
 have hb2:Blk w1 w.heap.size #[.int .i64 (cntF k:Nat),ofV k] 72:=by
  rw[hw1]
  exact (Blk.new w _ _).nb (Nb.rfl.al _)
 have hb3:Blk w1 (w.heap.size+1) #[.int .i64 s] 3:=by
  rw[hw1]
  have:=Blk.new (w.alloc (.cells #[.int .i64 (cntF k:Nat),ofV k] 72)) #[.int .i64 s] 3
  rwa[World.size_alloc] at this
 have hcf:=hcf 45 _ Tryd.func45 (by kernel_rfl) (by kernel_rfl)
 have hS:=search_any 45 (.pointer (some ⟨w.heap.size,0,none⟩)) (.pointer (some ⟨w.heap.size+1,0,none⟩)) (cntF k) (fitF k s) w1 (by have:=cntF_le k;omega) (fitF_le k s) hcf
  (fun c w' hc hn=>fitlit_any k s c _ _ w' hc ((hl.below nb1).below hn) (hb2.nb hn) (hb3.nb hn))
 have HS:=Lib.hid hS
 have hmf:∀ (fn:Fn) (first cap:Array Value) (w:World),(Instr.makeFunc fn first cap).run Tryd.prog w = .ok (.func fn first cap) w:=fun _ _ _ _=>rfl
 clear hS hcf hb2 hb3 hl
 generalize ofV k=o at *
 generalize cntF k=n at *
 generalize fitF k s=T at *
 go_enter Tryd.func38,Tryd.ntmps38
 go_wp2_with fail
 rw[<- hw1]
 refine HS.out.mono ?_
 rintro e w2 ⟨rfl,n2⟩
 clear hw1
 go_wp2
 go_ret
 exact⟨rfl,nb1.tr n2⟩
theorem sizesOf_any (k:Int) (w:World) :
    Calls Tryd.prog 37 #[.int .i64 k] w fun e w'=>e = .returned (.agg #[.int .i64 (cntF k:Nat),ofV k])/\Nb w w':=by
 rcases kind_cases k with (rfl | rfl | rfl) | ⟨h1,h2,h3⟩
 ·go_enter Tryd.func37,Tryd.ntmps37
  go_wp2
  exact bodyPost_ret (v := .agg #[.int .i64 (cntF 1:Nat),ofV 1]) (by simp[results,Tryd.results37,go_sem,cntF,ofV]) rfl ⟨rfl,Nb.rfl.al _⟩
 ·go_enter Tryd.func37,Tryd.ntmps37
  go_wp2
  exact bodyPost_ret (v := .agg #[.int .i64 (cntF 2:Nat),ofV 2]) (by simp[results,Tryd.results37,go_sem,cntF,ofV]) rfl ⟨rfl,Nb.rfl.al _⟩
 ·go_enter Tryd.func37,Tryd.ntmps37
  go_wp2
  exact bodyPost_ret (v := .agg #[.int .i64 (cntF 3:Nat),ofV 3]) (by simp[results,Tryd.results37,go_sem,cntF,ofV]) rfl ⟨rfl,Nb.rfl.al _⟩
 ·have e1:cntF k=0:=by simp[cntF,h1,h2,h3]
  have e2:ofV k = .nilFunc:=by simp[ofV,h1,h2,h3]
  have d1:(k==1)=false:=by simpa using h1
  have d2:(k==2)=false:=by simpa using h2
  have d3:(k==3)=false:=by simpa using h3
  rw[e1,e2]
  clear e1 e2 h1 h2 h3
  go_enter Tryd.func37,Tryd.ntmps37
  go_wp2
  exact bodyPost_ret (v := .agg #[.int .i64 ((0:Nat):Int),.nilFunc]) (by simp[results,Tryd.results37,go_sem]) rfl ⟨rfl,Nb.rfl.al _⟩
theorem ofV_one (k:Int):(ofV k).oneCell'=true:=by
 unfold ofV
 (repeat' split)<;>rfl
theorem code_any (k s:Int) (w:World) (hl:Longer w) :
    Calls Tryd.prog 30 #[.int .i64 k,.int .i64 s] w fun e w'=>e = .returned (.tuple #[.int .i64 (codeV k s:Nat),.int .i64 (codeE k s:Nat)])/\Nb w w':=by
 have ho:∀ a m w,(store a (ofV k) m).run Tryd.prog w=stored Tryd.prog w a (ofV k) m:=fun a m w=>run_store _ _ _ _ _ (ofV_one k)
 have HL:=Lib.hid hl
 have hle:=fitF_le k s
 have hSz:=Lib.hid (sizesOf_any k)
 have hFit:=Lib.hid (fun w' (h:Nb w w')=>fitM_any k s w' (hl.below h))
 clear hl
 by_cases hc:fitF k s < cntF k
 ·have d1:(((fitF k s:Nat):Int)==((cntF k:Nat):Int))=false:=by rw[beq_eq_false_iff_ne];omega
  have hAt:=Lib.hid (fun w' (h:Nb w w')=>at_any k (fitF k s) w' hc (HL.out.below h))
  by_cases hs:((atF k (fitF k s):Nat):Int)=s
  ·have hh:hasF k s=true:=(hasF_iff k s).2 ⟨hc,hs⟩
   have d2:(((atF k (fitF k s):Nat):Int) != s)=false:=by simpa using hs
   rw[show codeV k s=fitF k s by simp[codeV,hh],show codeE k s=0 by simp[codeE,hh]]
   clear hc hh hs
   generalize ofV k=o at *
   generalize cntF k=n at *
   generalize fitF k s=T at *
   generalize atF k T=y at *
   go_enter Tryd.func30,Tryd.ntmps30
   go_wp2_with fail
   refine (hSz.out _).mono ?_
   rintro e w1 ⟨rfl,n1⟩
   go_wp2_with fail
   refine (hFit.out _ (n1.al _)).mono ?_
   rintro e w2 ⟨rfl,n2⟩
   have hq:=(Blk.new w1 #[.int .i64 n,o] 72).nb n2
   obtain⟨c0,c1⟩:=hq.two
   have m2:Nb w w2:=(n1.al _).tr n2
   clear hq
   go_wp2_with fail
   refine (hAt.out _ m2).mono ?_
   rintro e w3 ⟨rfl,n3⟩
   go_wp2
   go_ret2
   exact⟨rfl,m2.tr n3⟩
  ·have hh:hasF k s=false:=by
    cases h:hasF k s with
    | false=>rfl
    | true=>exact absurd ((hasF_iff k s).1 h).2 hs
   have d2:(((atF k (fitF k s):Nat):Int) != s)=true:=by simpa using hs
   rw[show codeV k s=0 by simp[codeV,hh],show codeE k s=2 by simp[codeE,hh]]
   clear hc hh hs
   generalize ofV k=o at *
   generalize cntF k=n at *
   generalize fitF k s=T at *
   generalize atF k T=y at *
   go_enter Tryd.func30,Tryd.ntmps30
   go_wp2_with fail
   refine (hSz.out _).mono ?_
   rintro e w1 ⟨rfl,n1⟩
   go_wp2_with fail
   refine (hFit.out _ (n1.al _)).mono ?_
   rintro e w2 ⟨rfl,n2⟩
   have hq:=(Blk.new w1 #[.int .i64 n,o] 72).nb n2
   obtain⟨c0,c1⟩:=hq.two
   have m2:Nb w w2:=(n1.al _).tr n2
   clear hq
   go_wp2_with fail
   refine (hAt.out _ m2).mono ?_
   rintro e w3 ⟨rfl,n3⟩
   go_wp2
   go_ret2
   exact⟨rfl,m2.tr n3⟩
 ·have hT:fitF k s=cntF k:=by omega
  have hh:hasF k s=false:=by
   cases h:hasF k s with
   | false=>rfl
   | true=>exact absurd ((hasF_iff k s).1 h).1 hc
  rw[show codeV k s=0 by simp[codeV,hh],show codeE k s=2 by simp[codeE,hh]]
  rw[hT] at hFit
  clear hc hh hT hle
  generalize ofV k=o at *
  generalize cntF k=n at *
  go_enter Tryd.func30,Tryd.ntmps30
  go_wp2_with fail
  refine (hSz.out _).mono ?_
  rintro e w1 ⟨rfl,n1⟩
  go_wp2_with fail
  refine (hFit.out _ (n1.al _)).mono ?_
  rintro e w2 ⟨rfl,n2⟩
  have hq:=(Blk.new w1 #[.int .i64 n,o] 72).nb n2
  obtain⟨c0,c1⟩:=hq.two
  have m2:Nb w w2:=(n1.al _).tr n2
  clear hq
  go_wp2
  go_ret2
  exact⟨rfl,m2⟩
end Go.Proofs.YtlmbggmamemmjaaDoor
namespace Go.Proofs.YtlmbggmamemmjaaDoor
set_option linter.unusedVariables false
set_option linter.unusedSimpArgs false
open Go.RowKit
theorem size_bad {k c:Int} (h:¬(0<=c/\c < (cntF k:Int))):sizeV k c=0/\sizeE k c=2:=by
 have hh:isC k c=false:=by
  cases h1:isC k c with
  | false=>rfl
  | true=>exact absurd ((isC_iff k c).1 h1) h
 simp[sizeV,sizeE,hh]
theorem size_good {k:Int} {c:Nat} (h:c < cntF k):sizeV k c=atF k c/\sizeE k c=0:=by
 have hh:isC k c=true:=(isC_nat k c).2 h
 simp[sizeV,sizeE,hh]
theorem refsize_any (k c:Int) (w:World) :
    Calls Tryd.prog 40 #[.int .i64 k,.int .i64 c] w fun e w'=>e = .returned (.tuple #[.int .i64 (sizeV k c:Nat),.int .i64 (sizeE k c:Nat)])/\w=w':=by
 by_cases hg:0<=c/\c < (cntF k:Int)
 ·obtain⟨d,rfl⟩:=Int.eq_ofNat_of_zero_le hg.1
  have hd:d < cntF k:=by omega
  rw[(size_good hd).1,(size_good hd).2]
  clear hg
  rcases kind_cases k with (rfl | rfl | rfl) | ⟨h1,h2,h3⟩
  ·have h9:d < 9:=hd
   rw[at1 d h9]
   clear hd
   go_enter Tryd.func40,Tryd.ntmps40
   go_wp2
   go_ret2
   exact⟨rfl,rfl⟩
  ·have h16:d < 16:=hd
   by_cases h9:d < 9
   ·have e:atF 2 d=d:=by simp[atF,h9]
    rw[e]
    clear hd e
    go_enter Tryd.func40,Tryd.ntmps40
    go_wp2
    go_ret2
    exact⟨rfl,rfl⟩
   ·clear hd
    rcases (by omega:d=9\/d=10\/d=11\/d=12\/d=13\/d=14\/d=15) with rfl | rfl | rfl | rfl | rfl | rfl | rfl
    ·have hix:∀ w,(Instr.index 77 (.agg #[.int .i64 12,.int .i64 16,.int .i64 20,.int .i64 24,.int .i64 32,.int .i64 48,.int .i64 64]) (.int .i64 0)).run Tryd.prog w = .ok (.int .i64 12) w:=fun _=>by kernel_rfl
     clear h9 h16
     rw[show atF 2 9=12 from rfl]
     go_enter Tryd.func40,Tryd.ntmps40
     go_wp2
     go_ret2
     exact⟨rfl,rfl⟩
    ·have hix:∀ w,(Instr.index 77 (.agg #[.int .i64 12,.int .i64 16,.int .i64 20,.int .i64 24,.int .i64 32,.int .i64 48,.int .i64 64]) (.int .i64 1)).run Tryd.prog w = .ok (.int .i64 16) w:=fun _=>by kernel_rfl
     clear h9 h16
     rw[show atF 2 10=16 from rfl]
     go_enter Tryd.func40,Tryd.ntmps40
     go_wp2
     go_ret2
     exact⟨rfl,rfl⟩
    ·have hix:∀ w,(Instr.index 77 (.agg #[.int .i64 12,.int .i64 16,.int .i64 20,.int .i64 24,.int .i64 32,.int .i64 48,.int .i64 64]) (.int .i64 2)).run Tryd.prog w = .ok (.int .i64 20) w:=fun _=>by kernel_rfl
     clear h9 h16
     rw[show atF 2 11=20 from rfl]
     go_enter Tryd.func40,Tryd.ntmps40
     go_wp2
     go_ret2
     exact⟨rfl,rfl⟩
    ·have hix:∀ w,(Instr.index 77 (.agg #[.int .i64 12,.int .i64 16,.int .i64 20,.int .i64 24,.int .i64 32,.int .i64 48,.int .i64 64]) (.int .i64 3)).run Tryd.prog w = .ok (.int .i64 24) w:=fun _=>by kernel_rfl
     clear h9 h16
     rw[show atF 2 12=24 from rfl]
     go_enter Tryd.func40,Tryd.ntmps40
     go_wp2
     go_ret2
     exact⟨rfl,rfl⟩
    ·have hix:∀ w,(Instr.index 77 (.agg #[.int .i64 12,.int .i64 16,.int .i64 20,.int .i64 24,.int .i64 32,.int .i64 48,.int .i64 64]) (.int .i64 4)).run Tryd.prog w = .ok (.int .i64 32) w:=fun _=>by kernel_rfl
     clear h9 h16
     rw[show atF 2 13=32 from rfl]
     go_enter Tryd.func40,Tryd.ntmps40
     go_wp2
     go_ret2
     exact⟨rfl,rfl⟩
    ·have hix:∀ w,(Instr.index 77 (.agg #[.int .i64 12,.int .i64 16,.int .i64 20,.int .i64 24,.int .i64 32,.int .i64 48,.int .i64 64]) (.int .i64 5)).run Tryd.prog w = .ok (.int .i64 48) w:=fun _=>by kernel_rfl
     clear h9 h16
     rw[show atF 2 14=48 from rfl]
     go_enter Tryd.func40,Tryd.ntmps40
     go_wp2
     go_ret2
     exact⟨rfl,rfl⟩
    ·have hix:∀ w,(Instr.index 77 (.agg #[.int .i64 12,.int .i64 16,.int .i64 20,.int .i64 24,.int .i64 32,.int .i64 48,.int .i64 64]) (.int .i64 6)).run Tryd.prog w = .ok (.int .i64 64) w:=fun _=>by kernel_rfl
     clear h9 h16
     rw[show atF 2 15=64 from rfl]
     go_enter Tryd.func40,Tryd.ntmps40
     go_wp2
     go_ret2
     exact⟨rfl,rfl⟩
  ·have h20:d < 2048:=hd
   rw[at3]
   clear hd
   go_enter Tryd.func40,Tryd.ntmps40
   go_wp2
   go_ret2
   exact⟨rfl,rfl⟩
  ·simp[cntF,h1,h2,h3] at hd
 ·rw[(size_bad hg).1,(size_bad hg).2]
  rcases kind_cases k with (rfl | rfl | rfl) | ⟨h1,h2,h3⟩
  ·have hn:¬(0<=c/\c < 9):=hg
   clear hg
   by_cases h0:0<=c
   ·have hb:9<=c:=by omega
    clear hn
    go_enter Tryd.func40,Tryd.ntmps40
    go_wp2
    go_ret2
    exact⟨rfl,rfl⟩
   ·have hb:c < 0:=by omega
    clear hn h0
    go_enter Tryd.func40,Tryd.ntmps40
    go_wp2
    go_ret2
    exact⟨rfl,rfl⟩
  ·have hn:¬(0<=c/\c < 16):=hg
   clear hg
   by_cases h0:0<=c
   ·have hb:16<=c:=by omega
    clear hn
    go_enter Tryd.func40,Tryd.ntmps40
    go_wp2
    go_ret2
    exact⟨rfl,rfl⟩
   ·have hb:c < 0:=by omega
    clear hn h0
    go_enter Tryd.func40,Tryd.ntmps40
    go_wp2
    go_ret2
    exact⟨rfl,rfl⟩
  ·have hn:¬(0<=c/\c < 2048):=hg
   clear hg
   by_cases h0:0<=c
   ·have hb:2048<=c:=by omega
    clear hn
    go_enter Tryd.func40,Tryd.ntmps40
    go_wp2
    go_ret2
    exact⟨rfl,rfl⟩
   ·have hb:c < 0:=by omega
    clear hn h0
    go_enter Tryd.func40,Tryd.ntmps40
    go_wp2
    go_ret2
    exact⟨rfl,rfl⟩
  ·have d1:(k==1)=false:=by simpa using h1
   have d2:(k==2)=false:=by simpa using h2
   have d3:(k==3)=false:=by simpa using h3
   clear h1 h2 h3 hg
   go_enter Tryd.func40,Tryd.ntmps40
   go_wp2
   go_ret2
   exact⟨rfl,rfl⟩
theorem refcode_any (k s:Int) (w:World) :
    Calls Tryd.prog 36 #[.int .i64 k,.int .i64 s] w fun e w'=>e = .returned (.tuple #[.int .i64 (codeV k s:Nat),.int .i64 (codeE k s:Nat)])/\Nb w w':=by
 have hR:=Lib.hid (refsize_any k)
 go_enter Tryd.func36,Tryd.ntmps36
 go_wp2
 go_loopw [6] (fun i wr=>∃ c:Nat,c<=2048/\i = .int .i64 c/\(∀ j:Nat,j < c->¬(isC k j=true/\(sizeV k j:Int)=s))/\Nb w wr) (fun i _=>2048 - (intOf i).toNat)
 case atStart=>exact⟨0,by omega,rfl,fun j hj=>by omega,Nb.rfl⟩
 case round =>
  obtain⟨c,hc,rfl,hall,hnb⟩:=hrel
  have HA:=Lib.hid hall
  clear hall
  by_cases hlt:c < 2048
  ·cases hi:isC k c with
   | false =>
     have HI:=Lib.hid hi
     have hr:=hR.out c wr
     rw[show sizeE k c=2 by simp[sizeE,hi],show sizeV k c=0 by simp[sizeV,hi]] at hr
     have H1:=Lib.hid hr
     clear hr hi
     go_wp2_with fail
     refine H1.out.mono ?_
     rintro e w2 ⟨rfl,rfl⟩
     go_wp2
     go_roundw
     case rel=>exact⟨c+1,by omega,by go_num,fun j hj h=>by
      rcases Nat.lt_succ_iff_lt_or_eq.1 hj with h1 | rfl
      ·exact HA.out j h1 h
      ·rw[HI.out] at h;exact Bool.noConfusion h.1,hnb⟩
     case measure=>simp[intOf];omega
   | true =>
     have hr:=hR.out c wr
     rw[show sizeE k c=0 by simp[sizeE,hi]] at hr
     have HI:=Lib.hid hi
     obtain⟨y,hy⟩:∃ y,sizeV k c=y:=⟨_,rfl⟩
     rw[hy] at hr
     have HY:=Lib.hid hy
     have H1:=Lib.hid hr
     clear hr hi hy
     by_cases hs:(y:Int)=s
     ·have hs':((y:Int)==s)=true:=by simpa using hs
      obtain⟨e1,e2⟩:=code_hit k s c HI.out (by rw[HY.out];exact hs)
      have E:=Lib.hid (And.intro e1 e2)
      have HSs:=Lib.hid hs
      clear e1 e2 hs
      go_wp2_with fail
      refine H1.out.mono ?_
      rintro e w2 ⟨rfl,rfl⟩
      go_wp2
      go_ret2
      rw[E.out.1,E.out.2]
      exact⟨rfl,hnb⟩
     ·have hs':((y:Int)==s)=false:=by simpa using hs
      have HSs:=Lib.hid hs
      clear hs
      go_wp2_with fail
      refine H1.out.mono ?_
      rintro e w2 ⟨rfl,rfl⟩
      go_wp2
      go_roundw
      case rel=>exact⟨c+1,by omega,by go_num,fun j hj h=>by
       rcases Nat.lt_succ_iff_lt_or_eq.1 hj with h1 | rfl
       ·exact HA.out j h1 h
       ·rw[HY.out] at h;exact absurd h.2 (by have:=HSs.out;omega),hnb⟩
      case measure=>simp[intOf];omega
  ·obtain rfl:c=2048:=by omega
   obtain⟨e1,e2⟩:=code_none k s HA.out
   have E:=Lib.hid (And.intro e1 e2)
   clear e1 e2
   go_wp2
   go_ret2
   rw[E.out.1,E.out.2]
   exact⟨rfl,hnb⟩
end Go.Proofs.YtlmbggmamemmjaaDoor
