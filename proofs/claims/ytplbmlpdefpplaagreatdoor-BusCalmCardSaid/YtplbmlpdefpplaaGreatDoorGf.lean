/- The sizes of a kind's data, their codes, and what of them follows, and more. Conditions: as each says. -/
import Derived.Test.YtplbmlpdefpplaaGreatDoorGa
import Derived.Deep.RegionHeld3
import Derived.Laws.EntriesVeiled
set_option maxHeartbeats 1600000
set_option maxRecDepth 100000
namespace Go.Proofs.YtplbmlpdefpplaaGreatDoor
set_option linter.unusedVariables false
set_option linter.unusedSimpArgs false
open Go.RowKit
variable {w:World}
def z0R(k:Int):Nat:=if k=1 then 9 else if k=2 then 16 else if k=3 then 2048 else 0
def zf8(c:Nat):Nat:=if c=0 then 12 else if c=1 then 16 else if c=2 then 20 else if c=3 then 24 else if c=4 then 32 else if c=5 then 48 else 64
def atF(k:Int)(c:Nat):Nat:=if k=3 then c+1 else if c < 9 then c else zf8 (c - 9)
def z0r(k s:Int):Nat :=
 if k=1 then(if s<=0 then 0 else if s<=8 then s.toNat else 9)
 else if k=2 then(if s<=0 then 0 else if s<=8 then s.toNat else if s<=12 then 9 else if s<=16 then 10 else if s<=20 then 11 else if s<=24 then 12 else if s<=32 then 13 else if s<=48 then 14 else if s<=64 then 15 else 16)
 else if k=3 then(if s<=1 then 0 else if s<=2048 then(s - 1).toNat else 2048)
 else 0
theorem z0H(k:Int):(k=1\/k=2\/k=3)\/(k≠1/\k≠2/\k≠3):=by omega
theorem zcW(k:Int):z0R k<=2048:=by unfold z0R;(repeat' split)<;>omega
theorem at1(c:Nat)(h:c < 9):atF 1 c=c:=by simp[atF,h]
theorem at3(c:Nat):atF 3 c=c+1:=by simp[atF]
theorem at2(c:Nat)(h:c < 16):(c < 9/\atF 2 c=c)\/(c=9/\atF 2 c=12)\/(c=10/\atF 2 c=16)\/(c=11/\atF 2 c=20)\/(c=12/\atF 2 c=24)\/(c=13/\atF 2 c=32)\/(c=14/\atF 2 c=48)\/(c=15/\atF 2 c=64):=by
 by_cases h9:c < 9
 ·exact .inl ⟨h9,by simp[atF,h9]⟩
 ·rcases(by omega:c=9\/c=10\/c=11\/c=12\/c=13\/c=14\/c=15)with rfl | rfl | rfl | rfl | rfl | rfl | rfl<;>decide
theorem zmd(s:Int):(s<=0/\z0r 1 s=0)\/(0 < s/\s<=8/\(z0r 1 s:Int)=s)\/(8 < s/\z0r 1 s=9):=by
 rcases(by omega:s<=0\/(0 < s/\s<=8)\/8 < s)with h | h | h
 ·exact .inl ⟨h,by simp[z0r,h]⟩
 ·exact .inr (.inl ⟨h.1, h.2, by have h0:¬s<=0:=by omega
                                 have h1:=h.2
                                 simp only[z0r,if_true,if_neg h0,if_pos h1];omega⟩)
 ·exact .inr (.inr ⟨h, by have h0:¬s<=0:=by omega
                          have h1:¬s<=8:=by omega
                          simp only[z0r,if_true,if_neg h0,if_neg h1]⟩)
theorem zm7(s:Int):(s<=0/\z0r 2 s=0)\/(0 < s/\s<=8/\(z0r 2 s:Int)=s)\/(8 < s/\s<=12/\z0r 2 s=9)\/(12 < s/\s<=16/\z0r 2 s=10)\/(16 < s/\s<=20/\z0r 2 s=11)\/(20 < s/\s<=24/\z0r 2 s=12)\/(24 < s/\s<=32/\z0r 2 s=13)\/(32 < s/\s<=48/\z0r 2 s=14)\/(48 < s/\s<=64/\z0r 2 s=15)\/(64 < s/\z0r 2 s=16):=by
 have e:(2:Int)=1↔False:=by decide
 rcases(by omega:s<=0\/(0 < s/\s<=8)\/(8 < s/\s<=12)\/(12 < s/\s<=16)\/(16 < s/\s<=20)\/(20 < s/\s<=24)\/(24 < s/\s<=32)\/(32 < s/\s<=48)\/(48 < s/\s<=64)\/64 < s)with h | h | h | h | h | h | h | h | h | h
 ·have k0:s<=0:=by omega
  have hf:z0r 2 s=0:=by simp only[z0r,e,if_false,if_true,if_pos k0]
  omega
 ·have k0:¬s<=0:=by omega
  have k1:s<=8:=by omega
  have hf:(z0r 2 s:Int)=s:=by simp only[z0r,e,if_false,if_true,if_neg k0,if_pos k1];omega
  omega
 ·have k0:¬s<=0:=by omega
  have k1:¬s<=8:=by omega
  have k2:s<=12:=by omega
  have hf:z0r 2 s=9:=by simp only[z0r,e,if_false,if_true,if_neg k0,if_neg k1,if_pos k2]
  omega
 ·have k0:¬s<=0:=by omega
  have k1:¬s<=8:=by omega
  have k2:¬s<=12:=by omega
  have k3:s<=16:=by omega
  have hf:z0r 2 s=10:=by simp only[z0r,e,if_false,if_true,if_neg k0,if_neg k1,if_neg k2,if_pos k3]
  omega
 ·have k0:¬s<=0:=by omega
  have k1:¬s<=8:=by omega
  have k2:¬s<=12:=by omega
  have k3:¬s<=16:=by omega
  have k4:s<=20:=by omega
  have hf:z0r 2 s=11:=by simp only[z0r,e,if_false,if_true,if_neg k0,if_neg k1,if_neg k2,if_neg k3,if_pos k4]
  omega
 ·have k0:¬s<=0:=by omega
  have k1:¬s<=8:=by omega
  have k2:¬s<=12:=by omega
  have k3:¬s<=16:=by omega
  have k4:¬s<=20:=by omega
  have k5:s<=24:=by omega
  have hf:z0r 2 s=12:=by simp only[z0r,e,if_false,if_true,if_neg k0,if_neg k1,if_neg k2,if_neg k3,if_neg k4,if_pos k5]
  omega
 ·have k0:¬s<=0:=by omega
  have k1:¬s<=8:=by omega
  have k2:¬s<=12:=by omega
  have k3:¬s<=16:=by omega
  have k4:¬s<=20:=by omega
  have k5:¬s<=24:=by omega
  have k6:s<=32:=by omega
  have hf:z0r 2 s=13:=by simp only[z0r,e,if_false,if_true,if_neg k0,if_neg k1,if_neg k2,if_neg k3,if_neg k4,if_neg k5,if_pos k6]
  omega
 ·have k0:¬s<=0:=by omega
  have k1:¬s<=8:=by omega
  have k2:¬s<=12:=by omega
  have k3:¬s<=16:=by omega
  have k4:¬s<=20:=by omega
  have k5:¬s<=24:=by omega
  have k6:¬s<=32:=by omega
  have k7:s<=48:=by omega
  have hf:z0r 2 s=14:=by simp only[z0r,e,if_false,if_true,if_neg k0,if_neg k1,if_neg k2,if_neg k3,if_neg k4,if_neg k5,if_neg k6,if_pos k7]
  omega
 ·have k0:¬s<=0:=by omega
  have k1:¬s<=8:=by omega
  have k2:¬s<=12:=by omega
  have k3:¬s<=16:=by omega
  have k4:¬s<=20:=by omega
  have k5:¬s<=24:=by omega
  have k6:¬s<=32:=by omega
  have k7:¬s<=48:=by omega
  have k8:s<=64:=by omega
  have hf:z0r 2 s=15:=by simp only[z0r,e,if_false,if_true,if_neg k0,if_neg k1,if_neg k2,if_neg k3,if_neg k4,if_neg k5,if_neg k6,if_neg k7,if_pos k8]
  omega
 ·have k0:¬s<=0:=by omega
  have k1:¬s<=8:=by omega
  have k2:¬s<=12:=by omega
  have k3:¬s<=16:=by omega
  have k4:¬s<=20:=by omega
  have k5:¬s<=24:=by omega
  have k6:¬s<=32:=by omega
  have k7:¬s<=48:=by omega
  have k8:¬s<=64:=by omega
  have hf:z0r 2 s=16:=by simp only[z0r,e,if_false,if_true,if_neg k0,if_neg k1,if_neg k2,if_neg k3,if_neg k4,if_neg k5,if_neg k6,if_neg k7,if_neg k8]
  omega
theorem zm6(s:Int):(s<=1/\z0r 3 s=0)\/(1 < s/\s<=2048/\(z0r 3 s:Int)=s - 1)\/(2048 < s/\z0r 3 s=2048):=by
 have e:(3:Int)=1↔False:=by decide
 have e2:(3:Int)=2↔False:=by decide
 rcases(by omega:s<=1\/(1 < s/\s<=2048)\/2048 < s)with h | h | h
 ·have hf:z0r 3 s=0:=by simp only[z0r,e,e2,if_false,if_true,if_pos h]
  omega
 ·have k0:¬s<=1:=by omega
  have hf:(z0r 3 s:Int)=s - 1:=by simp only[z0r,e,e2,if_false,if_true,if_neg k0,if_pos h.2];omega
  omega
 ·have k0:¬s<=1:=by omega
  have k1:¬s<=2048:=by omega
  have hf:z0r 3 s=2048:=by simp only[z0r,e,e2,if_false,if_true,if_neg k0,if_neg k1]
  omega
theorem zdH(k s:Int):z0r k s<=z0R k:=by
 rcases z0H k with (rfl | rfl | rfl) | ⟨h1,h2,h3⟩
 ·have:=zmd s
  show z0r 1 s<=9
  omega
 ·have:=zm7 s
  show z0r 2 s<=16
  omega
 ·have:=zm6 s
  show z0r 3 s<=2048
  omega
 ·simp[z0r,h1,h2,h3]
theorem za8(k s:Int)(c:Nat)(h:c < z0R k):s<=(atF k c:Int)↔z0r k s<=c:=by
 rcases z0H k with (rfl | rfl | rfl) | ⟨h1,h2,h3⟩
 ·have hc:c < 9:=h
  have:=at1 c hc
  have:=zmd s
  omega
 ·have hc:c < 16:=h
  have:=at2 c hc
  have:=zm7 s
  omega
 ·have hc:c < 2048:=h
  have:=at3 c
  have:=zm6 s
  omega
 ·simp[z0R,h1,h2,h3]at h
theorem zj3(k s:Int)(c:Nat)(h:c < z0R k):decide (s<=(atF k c:Int))=decide (z0r k s<=c):=by
 have:=za8 k s c h
 by_cases h1:z0r k s<=c
 ·simp[h1,this.2 h1]
 ·have h2:¬s<=(atF k c:Int):=fun h2=>h1 (this.1 h2)
  rw[decide_eq_false h1,decide_eq_false h2]
theorem zkB(k:Int)(c:Nat)(h:c < z0R k):atF k c<=2048:=by
 rcases z0H k with (rfl | rfl | rfl) | ⟨h1,h2,h3⟩
 ·have hc:c < 9:=h
  have:=at1 c hc
  omega
 ·have hc:c < 16:=h
  have:=at2 c hc
  omega
 ·have hc:c < 2048:=h
  have:=at3 c
  omega
 ·simp[z0R,h1,h2,h3]at h
def z2K(k s:Int):Bool:=decide (z0r k s < z0R k)&&decide ((atF k (z0r k s):Int)=s)
def z0s(k s:Int):Nat:=if z2K k s then z0r k s else 0
def z0t(k s:Int):Nat:=if z2K k s then 0 else 2
def isC(k c:Int):Bool:=decide (0<=c)&&decide (c < (z0R k:Int))
def z0m(k c:Int):Nat:=if isC k c then atF k c.toNat else 0
def z1c(k c:Int):Nat:=if isC k c then 0 else 2
theorem z17(k s:Int):z2K k s=true↔z0r k s < z0R k/\(atF k (z0r k s):Int)=s:=by simp[z2K]
theorem z7v(k c:Int):isC k c=true↔0<=c/\c < (z0R k:Int):=by simp[isC]
theorem z2M(k:Int)(c:Nat):isC k c=true↔c < z0R k:=by rw[z7v];omega
theorem zdX(k:Int)(c:Nat)(h:c < z0R k):z0r k (atF k c)=c:=by
 have h1:=(za8 k (atF k c) c h).1 (Int.le_refl _)
 rcases Nat.lt_or_eq_of_le h1 with h2 | h2
 ·exfalso
  have h3:z0r k (atF k c) < z0R k:=by omega
  have h4:=(za8 k (atF k c) _ h3).2 (Nat.le_refl _)
  rcases z0H k with (rfl | rfl | rfl) | ⟨h1,h2,h3⟩
  ·have:=at1 c h;have:=at1 _ h3;omega
  ·have:=at2 c h;have:=at2 _ h3;omega
  ·have:=at3 c;have:=at3 (z0r 3 (atF 3 c));omega
  ·simp[z0R,h1,h2,h3]at h
 ·exact h2
theorem zaV(k:Int)(c:Nat)(h:c < z0R k):z2K k (atF k c)=true:=by
 rw[z17,zdX k c h];exact⟨h,rfl⟩
theorem z7m(k s:Int)(c:Nat)(h:isC k c=true)(hs:(z0m k c:Int)=s):z0s k s=c/\z0t k s=0:=by
 have hc:=(z2M k c).1 h
 simp only[z0m,h,if_true,Int.toNat_natCast]at hs
 subst hs
 simp[z0s,z0t,zaV k c hc,zdX k c hc]
theorem zeM(k s:Int)(h:∀c:Nat,c < 2048->¬(isC k c=true/\(z0m k c:Int)=s)):z0s k s=0/\z0t k s=2:=by
 cases hh:z2K k s with
 | false=>simp[z0s,z0t,hh]
 | true =>
   obtain⟨h1,h2⟩:=(z17 k s).1 hh
   have:=zcW k
   exact absurd ⟨(z2M k _).2 h1,by simp only[z0m,(z2M k _).2 h1,if_true,Int.toNat_natCast];exact h2⟩ (h _ (by omega))
def zV(w:World):Prop:=∀c:Nat,c < 7->w.cell? ⟨0,c,none⟩=some (.int .i64 (zf8 c:Nat))
theorem zV.below{w':World}(h:zV w)(hb:Nb w w'):zV w':=fun c hc=>by
 have:=h c hc
 rw[hb.cell (p:=⟨0,c,none⟩) (World.block_lt_of_cell? _ _ this)]
 exact this
theorem zV.pos(h:zV w):0 < w.heap.size:=by
 have:=World.block_lt_of_cell? _ _ (h 0 (by decide))
 exact Nat.lt_of_le_of_lt (Nat.zero_le _) this
def ofV(k:Int):Value:=if k=1 then .func (.func 98) #[] #[]else if k=2 then .func (.func 99) #[] #[]else if k=3 then .func (.func 100) #[] #[]else .nilFunc
theorem z9G (c:Nat) (w:World) :
    Calls Tryz.prog 98 #[.int .i64 c] w fun e w'=>e = .returned (.int .i64 c)/\w=w':=by
 go_enter Tryz.func98,Tryz.ntmps98
 go_wp2
 go_ret
 exact⟨rfl,rfl⟩
theorem zka (c:Nat) (w:World) (hc:c < 2048) :
    Calls Tryz.prog 100 #[.int .i64 c] w fun e w'=>e = .returned (.int .i64 (c+1:Nat))/\w=w':=by
 go_enter Tryz.func100,Tryz.ntmps100
 go_wp2
 go_ret
 exact⟨rfl,rfl⟩
theorem zkw (c:Nat) (w:World) (hc:c < 16) (hl:zV w) :
    Calls Tryz.prog 99 #[.int .i64 c] w fun e w'=>e = .returned (.int .i64 (atF 2 c:Nat))/\w=w':=by
 have hp:=hl.pos
 by_cases h9:c < 9
 ·have e:atF 2 c=c:=by simp[atF,h9]
  rw[e]
  clear e hl
  go_enter Tryz.func99,Tryz.ntmps99
  go_wp2
  go_ret
  exact⟨rfl,rfl⟩
 ·obtain⟨d,rfl⟩:∃d,c=9+d:=⟨c - 9,by omega⟩
  have e:atF 2 (9+d)=zf8 d:=by
   unfold atF
   rw[if_neg (by decide),if_neg h9,Nat.add_sub_cancel_left]
  rw[e]
  have hd:d < 7:=by omega
  have c0:=hl d hd
  generalize zf8 d=x at c0 ⊢
  have hw:IntKind.i64.wrap (((9+d:Nat):Int) - 9)=(d:Int):=by rw[IntWalk.i64_in _ (by omega)];omega
  clear e hl h9
  go_enter Tryz.func99,Tryz.ntmps99
  go_wp2
  go_ret
  exact⟨rfl,rfl⟩
theorem zec (k:Int) (c:Nat) (w:World) (hc:c < z0R k) (hl:zV w) :
    Calls Tryz.prog 70 #[.agg #[.int .i64 (z0R k:Nat),ofV k],.int .i64 c] w fun e w'=>e = .returned (.int .i64 (atF k c:Nat))/\Nb w w':=by
 have HL:=zH hl
 clear hl
 rcases z0H k with (rfl | rfl | rfl) | ⟨h1,h2,h3⟩
 ·have hc9:c < 9:=hc
  have ev:ofV 1 = .func (.func 98) #[] #[]:=by rfl
  rw[at1 c hc9,ev]
  clear hc ev
  go_enter Tryz.func70,Tryz.ntmps70
  go_wp2_with fail
  refine(z9G c _).mono ?_
  rintro e w1 ⟨rfl,rfl⟩
  go_wp2
  go_ret
  exact⟨rfl,Nb.rfl.al _⟩
 ·have hc16:c < 16:=hc
  have ev:ofV 2 = .func (.func 99) #[] #[]:=by rfl
  rw[ev]
  clear hc ev
  go_enter Tryz.func70,Tryz.ntmps70
  go_wp2_with fail
  refine(zkw c _ hc16 (HL.out.below (Nb.rfl.al _))).mono ?_
  rintro e w1 ⟨rfl,rfl⟩
  go_wp2
  go_ret
  exact⟨rfl,Nb.rfl.al _⟩
 ·have hc2:c < 2048:=hc
  have ev:ofV 3 = .func (.func 100) #[] #[]:=by rfl
  rw[at3,ev]
  clear hc ev
  go_enter Tryz.func70,Tryz.ntmps70
  go_wp2_with fail
  refine(zka c _ hc2).mono ?_
  rintro e w1 ⟨rfl,rfl⟩
  go_wp2
  go_ret
  exact⟨rfl,Nb.rfl.al _⟩
 ·simp[z0R,h1,h2,h3]at hc
theorem zcp (F:Nat) (p2 p3:Value) (n T:Nat) (w:World) (hn:n<=4611686018427387903) (hT:T<=n)
    (hcf:∀args w,(callFunc F args).run Tryz.prog w = .ok (.enter F args) w)
    (hstep:∀(c:Nat) w',c < n->Nb w w'->Calls Tryz.prog F #[.int .i64 c,p2,p3] w' fun e w''=>e = .returned (.bool (decide (T<=c)))/\Nb w' w'') :
    Calls Tryz.prog 101 #[.int .i64 n,.func (.func F) #[] #[p2,p3]] w fun e w'=>e = .returned (.int .i64 T)/\Nb w w':=by
 have HS:=zH hstep
 clear hstep
 go_enter Tryz.func101,Tryz.ntmps101
 go_wp2
 go_loopw [5,6] (fun v i wr=>∃lo hi:Nat,v = .int .i64 lo/\i = .int .i64 hi/\lo<=T/\T<=hi/\hi<=n/\Nb w wr) (fun v i _=>(intOf i).toNat - (intOf v).toNat)
 case atStart=>exact⟨0,n,rfl,rfl,Nat.zero_le _,hT,Nat.le_refl _,Nb.rfl⟩
 case round =>
  obtain⟨lo,hi,rfl,rfl,h1,h2,h3,hnb⟩:=hrel
  by_cases hlt:lo < hi
  ·obtain⟨m,hm⟩:∃m,m=(lo+hi) / 2:=⟨_,rfl⟩
   have hm1:lo<=m:=by omega
   have hm2:m < hi:=by omega
   have hmi:((lo:Int)+(hi:Int)) / 2=(m:Int):=by omega
   by_cases hd:T<=m
   ·have hs:=HS.out m wr (by omega) hnb
    rw[decide_eq_true hd]at hs
    have H2:=zH hs
    clear hs hm
    go_wp2_with fail
    refine H2.out.mono ?_
    rintro e w2 ⟨rfl,n2⟩
    go_wp2
    go_roundw
    case rel=>exact⟨lo,m,rfl,rfl,h1,hd,by omega,hnb.tr n2⟩
    case measure=>simp[intOf];omega
   ·have hs:=HS.out m wr (by omega) hnb
    rw[decide_eq_false hd]at hs
    have H2:=zH hs
    clear hs hm
    go_wp2_with fail
    refine H2.out.mono ?_
    rintro e w2 ⟨rfl,n2⟩
    go_wp2
    go_roundw
    case rel=>exact⟨m+1,hi,by go_num,rfl,by omega,h2,h3,hnb.tr n2⟩
    case measure=>simp[intOf];omega
  ·obtain rfl:hi=lo:=by omega
   obtain rfl:T=hi:=by omega
   go_wp2
   go_ret
   exact⟨rfl,hnb⟩
theorem Blk.one{R:Nat}{u0:Value}{t:TypeId}(h:Blk w R #[u0] t):w.cell? ⟨R,0,none⟩=some u0:=h.cell 0
theorem Blk.two{R:Nat}{u0 u1:Value}{t:TypeId}(h:Blk w R #[u0,u1] t):w.cell? ⟨R,0,none⟩=some u0/\w.cell? ⟨R,1,none⟩=some u1:=⟨h.cell 0,h.cell 1⟩
theorem zbR (k s:Int) (c b2 b3:Nat) (w:World) (hc:c < z0R k) (hl:zV w)
    (h2:Blk w b2 #[.int .i64 (z0R k:Nat),ofV k] 134) (h3:Blk w b3 #[.int .i64 s] 3) :
    Calls Tryz.prog 102 #[.int .i64 c,.pointer (some ⟨b2,0,none⟩),.pointer (some ⟨b3,0,none⟩)] w fun e w'=>e = .returned (.bool (decide (z0r k s<=c)))/\Nb w w':=by
 have hd:=zj3 k s c hc
 have hat:∀w',Nb w w'->Calls Tryz.prog 70 #[.agg #[.int .i64 (z0R k:Nat),ofV k],.int .i64 c] w' fun e w''=>e = .returned (.int .i64 (atF k c:Nat))/\Nb w' w'':=fun w' hn=>zec k c w' hc (hl.below hn)
 have HD:=zH hd
 have HA:=zH hat
 obtain⟨c0,c1⟩:=h2.two
 have c2:=h3.one
 have H2:=zH h2
 have H3:=zH h3
 generalize ofV k=o at *
 generalize z0R k=n at *
 generalize z0r k s=T at *
 generalize atF k c=y at *
 clear hd hat hl h2 h3
 go_enter Tryz.func102,Tryz.ntmps102
 go_wp2_with fail
 go_region_held3 (fun w'=>w'.cell? ⟨b2,0,none⟩=some (.int .i64 (n:Nat))/\w'.cell? ⟨b2,1,none⟩=some o/\w'.cell? ⟨b3,0,none⟩=some (.int .i64 s)) (first | go_keep | exact⟨(H2.out.nb (Nb.tr (Below.drew (Below.refl _ _):Nb w w.drew) n6)).cell 0,(H2.out.nb (Nb.tr (Below.drew (Below.refl _ _):Nb w w.drew) n6)).cell 1,(H3.out.nb (Nb.tr (Below.drew (Below.refl _ _):Nb w w.drew) n6)).cell 0⟩) ((go_at_call 70;refine(HA.out _ (Below.drew (Below.refl _ _):Nb w w.drew)).mono ?_;rintro e w6 ⟨rfl,n6⟩))
 all_goals go_wp2
 all_goals go_ret
 all_goals exact⟨by rw[<- HD.out];rfl,Nb.tr (Below.drew (Below.refl _ _):Nb w w.drew) n6⟩
theorem zh0 (k s:Int) (w:World) (hl:zV w) :
    Calls Tryz.prog 69 #[.agg #[.int .i64 (z0R k:Nat),ofV k],.int .i64 s] w fun e w'=>e = .returned (.int .i64 (z0r k s:Nat))/\Nb w w':=by
 obtain⟨w1,hw1⟩:∃w1,w1=(w.alloc (.cells #[.int .i64 (z0R k:Nat),ofV k] 134)).alloc (.cells #[.int .i64 s] 3):=⟨_,rfl⟩
 have nb1:Nb w w1:=by rw[hw1];exact(Nb.rfl.al _).al _
 have hb2:Blk w1 w.heap.size #[.int .i64 (z0R k:Nat),ofV k] 134:=by
  rw[hw1]
  exact(Blk.new w _ _).nb (Nb.rfl.al _)
 have hb3:Blk w1 (w.heap.size+1) #[.int .i64 s] 3:=by
  rw[hw1]
  have:=Blk.new (w.alloc (.cells #[.int .i64 (z0R k:Nat),ofV k] 134)) #[.int .i64 s] 3
  rwa[World.size_alloc]at this
 have hcf:=hcf 102 _ Tryz.func102 (by kernel_rfl) (by kernel_rfl)
 have hS:=zcp 102 (.pointer (some ⟨w.heap.size,0,none⟩)) (.pointer (some ⟨w.heap.size+1,0,none⟩)) (z0R k) (z0r k s) w1 (by have:=zcW k;omega) (zdH k s) hcf
  (fun c w' hc hn=>zbR k s c _ _ w' hc ((hl.below nb1).below hn) (hb2.nb hn) (hb3.nb hn))
 have HS:=zH hS
 have hmf:∀(fn:Fn) (first cap:Array Value) (w:World),(Instr.makeFunc fn first cap).run Tryz.prog w = .ok (.func fn first cap) w:=fun _ _ _ _=>rfl
 clear hS hcf hb2 hb3 hl
 generalize ofV k=o at *
 generalize z0R k=n at *
 generalize z0r k s=T at *
 go_enter Tryz.func69,Tryz.ntmps69
 go_wp2_with fail
 rw[<- hw1]
 refine HS.out.mono ?_
 rintro e w2 ⟨rfl,n2⟩
 clear hw1
 go_wp2
 go_ret
 exact⟨rfl,nb1.tr n2⟩
theorem z5y (k:Int) (w:World) :
    Calls Tryz.prog 68 #[.int .i64 k] w fun e w'=>e = .returned (.agg #[.int .i64 (z0R k:Nat),ofV k])/\Nb w w':=by
 rcases z0H k with (rfl | rfl | rfl) | ⟨h1,h2,h3⟩
 ·go_enter Tryz.func68,Tryz.ntmps68
  go_wp2
  exact bodyPost_ret (v := .agg #[.int .i64 (z0R 1:Nat),ofV 1]) (by simp[results,Tryz.results68,go_sem,z0R,ofV]) rfl ⟨rfl,Nb.rfl.al _⟩
 ·go_enter Tryz.func68,Tryz.ntmps68
  go_wp2
  exact bodyPost_ret (v := .agg #[.int .i64 (z0R 2:Nat),ofV 2]) (by simp[results,Tryz.results68,go_sem,z0R,ofV]) rfl ⟨rfl,Nb.rfl.al _⟩
 ·go_enter Tryz.func68,Tryz.ntmps68
  go_wp2
  exact bodyPost_ret (v := .agg #[.int .i64 (z0R 3:Nat),ofV 3]) (by simp[results,Tryz.results68,go_sem,z0R,ofV]) rfl ⟨rfl,Nb.rfl.al _⟩
 ·have e1:z0R k=0:=by simp[z0R,h1,h2,h3]
  have e2:ofV k = .nilFunc:=by simp[ofV,h1,h2,h3]
  have d1:(k==1)=false:=by simpa using h1
  have d2:(k==2)=false:=by simpa using h2
  have d3:(k==3)=false:=by simpa using h3
  rw[e1,e2]
  clear e1 e2 h1 h2 h3
  go_enter Tryz.func68,Tryz.ntmps68
  go_wp2
  exact bodyPost_ret (v := .agg #[.int .i64 ((0:Nat):Int),.nilFunc]) (by simp[results,Tryz.results68,go_sem]) rfl ⟨rfl,Nb.rfl.al _⟩
theorem zdk(k:Int):(ofV k).oneCell'=true:=by
 unfold ofV
 (repeat' split)<;>rfl
theorem z4X (k s:Int) (w:World) (hl:zV w) :
    Calls Tryz.prog 36 #[.int .i64 k,.int .i64 s] w fun e w'=>e = .returned (.tuple #[.int .i64 (z0s k s:Nat),.int .i64 (z0t k s:Nat)])/\Nb w w':=by
 have ho:∀a m w,(store a (ofV k) m).run Tryz.prog w=stored Tryz.prog w a (ofV k) m:=fun a m w=>run_store _ _ _ _ _ (zdk k)
 have HL:=zH hl
 have hle:=zdH k s
 have hSz:=zH (z5y k)
 have hFit:=zH (fun w' (h:Nb w w')=>zh0 k s w' (hl.below h))
 clear hl
 by_cases hc:z0r k s < z0R k
 ·have d1:(((z0r k s:Nat):Int)==((z0R k:Nat):Int))=false:=by rw[beq_eq_false_iff_ne];omega
  have hAt:=zH (fun w' (h:Nb w w')=>zec k (z0r k s) w' hc (HL.out.below h))
  by_cases hs:((atF k (z0r k s):Nat):Int)=s
  ·have hh:z2K k s=true:=(z17 k s).2 ⟨hc,hs⟩
   have d2:(((atF k (z0r k s):Nat):Int) != s)=false:=by simpa using hs
   rw[show z0s k s=z0r k s by simp[z0s,hh],show z0t k s=0 by simp[z0t,hh]]
   clear hc hh hs
   generalize ofV k=o at *
   generalize z0R k=n at *
   generalize z0r k s=T at *
   generalize atF k T=y at *
   go_enter Tryz.func36,Tryz.ntmps36
   go_wp2_with fail
   refine(hSz.out _).mono ?_
   rintro e w1 ⟨rfl,n1⟩
   go_wp2_with fail
   refine(hFit.out _ (n1.al _)).mono ?_
   rintro e w2 ⟨rfl,n2⟩
   have hq:=(Blk.new w1 #[.int .i64 n,o] 134).nb n2
   obtain⟨c0,c1⟩:=hq.two
   have m2:Nb w w2:=(n1.al _).tr n2
   clear hq
   go_wp2_with fail
   refine(hAt.out _ m2).mono ?_
   rintro e w3 ⟨rfl,n3⟩
   go_wp2
   go_ret2
   exact⟨rfl,m2.tr n3⟩
  ·have hh:z2K k s=false:=by
    cases h:z2K k s with
    | false=>rfl
    | true=>exact absurd ((z17 k s).1 h).2 hs
   have d2:(((atF k (z0r k s):Nat):Int) != s)=true:=by simpa using hs
   rw[show z0s k s=0 by simp[z0s,hh],show z0t k s=2 by simp[z0t,hh]]
   clear hc hh hs
   generalize ofV k=o at *
   generalize z0R k=n at *
   generalize z0r k s=T at *
   generalize atF k T=y at *
   go_enter Tryz.func36,Tryz.ntmps36
   go_wp2_with fail
   refine(hSz.out _).mono ?_
   rintro e w1 ⟨rfl,n1⟩
   go_wp2_with fail
   refine(hFit.out _ (n1.al _)).mono ?_
   rintro e w2 ⟨rfl,n2⟩
   have hq:=(Blk.new w1 #[.int .i64 n,o] 134).nb n2
   obtain⟨c0,c1⟩:=hq.two
   have m2:Nb w w2:=(n1.al _).tr n2
   clear hq
   go_wp2_with fail
   refine(hAt.out _ m2).mono ?_
   rintro e w3 ⟨rfl,n3⟩
   go_wp2
   go_ret2
   exact⟨rfl,m2.tr n3⟩
 ·have hT:z0r k s=z0R k:=by omega
  have hh:z2K k s=false:=by
   cases h:z2K k s with
   | false=>rfl
   | true=>exact absurd ((z17 k s).1 h).1 hc
  rw[show z0s k s=0 by simp[z0s,hh],show z0t k s=2 by simp[z0t,hh]]
  rw[hT]at hFit
  clear hc hh hT hle
  generalize ofV k=o at *
  generalize z0R k=n at *
  go_enter Tryz.func36,Tryz.ntmps36
  go_wp2_with fail
  refine(hSz.out _).mono ?_
  rintro e w1 ⟨rfl,n1⟩
  go_wp2_with fail
  refine(hFit.out _ (n1.al _)).mono ?_
  rintro e w2 ⟨rfl,n2⟩
  have hq:=(Blk.new w1 #[.int .i64 n,o] 134).nb n2
  obtain⟨c0,c1⟩:=hq.two
  have m2:Nb w w2:=(n1.al _).tr n2
  clear hq
  go_wp2
  go_ret2
  exact⟨rfl,m2⟩
theorem zeD (k c:Int) (w:World) (hl:zV w) :
    Calls Tryz.prog 239 #[.int .i64 k,.int .i64 c] w fun e w'=>e = .returned (.tuple #[.int .i64 (z0m k c:Nat),.int .i64 (z1c k c:Nat)])/\Nb w w':=by
 have ho:∀a m w,(store a (ofV k) m).run Tryz.prog w=stored Tryz.prog w a (ofV k) m:=fun a m w=>run_store _ _ _ _ _ (zdk k)
 have hSz:=zH (z5y k)
 by_cases h0:c < 0
 ·have hh:isC k c=false:=by
   cases h:isC k c with
   | false=>rfl
   | true=>have:=(z7v k c).1 h;omega
  rw[show z0m k c=0 by simp[z0m,hh],show z1c k c=2 by simp[z1c,hh]]
  clear hh hl
  generalize ofV k=o at *
  generalize z0R k=n at *
  go_enter Tryz.func239,Tryz.ntmps239
  go_wp2_with fail
  refine(hSz.out _).mono ?_
  rintro e w1 ⟨rfl,n1⟩
  go_wp2
  go_ret2
  exact⟨rfl,n1.al _⟩
 ·by_cases h1:(z0R k:Int)<=c
  ·have hh:isC k c=false:=by
    cases h:isC k c with
    | false=>rfl
    | true=>have:=(z7v k c).1 h;omega
   rw[show z0m k c=0 by simp[z0m,hh],show z1c k c=2 by simp[z1c,hh]]
   clear hh hl
   generalize ofV k=o at *
   generalize z0R k=n at *
   go_enter Tryz.func239,Tryz.ntmps239
   go_wp2_with fail
   refine(hSz.out _).mono ?_
   rintro e w1 ⟨rfl,n1⟩
   go_wp2
   go_ret2
   exact⟨rfl,n1.al _⟩
  ·obtain⟨d,rfl⟩:=Int.eq_ofNat_of_zero_le (by omega:0<=c)
   have hd:d < z0R k:=by omega
   have hh:isC k d=true:=(z2M k d).2 hd
   rw[show z0m k d=atF k d by simp[z0m,hh],show z1c k d=0 by simp[z1c,hh]]
   have hAt:=zH (fun w' (h:Nb w w')=>zec k d w' hd (hl.below h))
   clear hh hl
   generalize ofV k=o at *
   generalize z0R k=n at *
   generalize atF k d=y at *
   go_enter Tryz.func239,Tryz.ntmps239
   go_wp2_with fail
   refine(hSz.out _).mono ?_
   rintro e w1 ⟨rfl,n1⟩
   go_wp2_with fail
   refine(hAt.out _ (n1.al _)).mono ?_
   rintro e w3 ⟨rfl,n3⟩
   go_wp2
   go_ret2
   exact⟨rfl,(n1.al _).tr n3⟩
theorem zaL{k c:Int}(h:¬(0<=c/\c < (z0R k:Int))):z0m k c=0/\z1c k c=2:=by
 have hh:isC k c=false:=by
  cases h1:isC k c with
  | false=>rfl
  | true=>exact absurd ((z7v k c).1 h1) h
 simp[z0m,z1c,hh]
theorem z7N{k:Int}{c:Nat}(h:c < z0R k):z0m k c=atF k c/\z1c k c=0:=by
 have hh:isC k c=true:=(z2M k c).2 h
 simp[z0m,z1c,hh]
theorem zap (k c:Int) (w:World) :
    Calls Tryz.prog 107 #[.int .i64 k,.int .i64 c] w fun e w'=>e = .returned (.tuple #[.int .i64 (z0m k c:Nat),.int .i64 (z1c k c:Nat)])/\w=w':=by
 by_cases hg:0<=c/\c < (z0R k:Int)
 ·obtain⟨d,rfl⟩:=Int.eq_ofNat_of_zero_le hg.1
  have hd:d < z0R k:=by omega
  rw[(z7N hd).1,(z7N hd).2]
  clear hg
  rcases z0H k with (rfl | rfl | rfl) | ⟨h1,h2,h3⟩
  ·have h9:d < 9:=hd
   rw[at1 d h9]
   clear hd
   go_enter Tryz.func107,Tryz.ntmps107
   go_wp2
   go_ret2
   exact⟨rfl,rfl⟩
  ·have h16:d < 16:=hd
   by_cases h9:d < 9
   ·have e:atF 2 d=d:=by simp[atF,h9]
    rw[e]
    clear hd e
    go_enter Tryz.func107,Tryz.ntmps107
    go_wp2
    go_ret2
    exact⟨rfl,rfl⟩
   ·clear hd
    rcases(by omega:d=9\/d=10\/d=11\/d=12\/d=13\/d=14\/d=15)with rfl | rfl | rfl | rfl | rfl | rfl | rfl
    ·have hix:∀w,(Instr.index 177 (.agg #[.int .i64 12,.int .i64 16,.int .i64 20,.int .i64 24,.int .i64 32,.int .i64 48,.int .i64 64]) (.int .i64 0)).run Tryz.prog w = .ok (.int .i64 12) w:=fun _=>by kernel_rfl
     clear h9 h16
     rw[show atF 2 9=12 from rfl]
     go_enter Tryz.func107,Tryz.ntmps107
     go_wp2
     go_ret2
     exact⟨rfl,rfl⟩
    ·have hix:∀w,(Instr.index 177 (.agg #[.int .i64 12,.int .i64 16,.int .i64 20,.int .i64 24,.int .i64 32,.int .i64 48,.int .i64 64]) (.int .i64 1)).run Tryz.prog w = .ok (.int .i64 16) w:=fun _=>by kernel_rfl
     clear h9 h16
     rw[show atF 2 10=16 from rfl]
     go_enter Tryz.func107,Tryz.ntmps107
     go_wp2
     go_ret2
     exact⟨rfl,rfl⟩
    ·have hix:∀w,(Instr.index 177 (.agg #[.int .i64 12,.int .i64 16,.int .i64 20,.int .i64 24,.int .i64 32,.int .i64 48,.int .i64 64]) (.int .i64 2)).run Tryz.prog w = .ok (.int .i64 20) w:=fun _=>by kernel_rfl
     clear h9 h16
     rw[show atF 2 11=20 from rfl]
     go_enter Tryz.func107,Tryz.ntmps107
     go_wp2
     go_ret2
     exact⟨rfl,rfl⟩
    ·have hix:∀w,(Instr.index 177 (.agg #[.int .i64 12,.int .i64 16,.int .i64 20,.int .i64 24,.int .i64 32,.int .i64 48,.int .i64 64]) (.int .i64 3)).run Tryz.prog w = .ok (.int .i64 24) w:=fun _=>by kernel_rfl
     clear h9 h16
     rw[show atF 2 12=24 from rfl]
     go_enter Tryz.func107,Tryz.ntmps107
     go_wp2
     go_ret2
     exact⟨rfl,rfl⟩
    ·have hix:∀w,(Instr.index 177 (.agg #[.int .i64 12,.int .i64 16,.int .i64 20,.int .i64 24,.int .i64 32,.int .i64 48,.int .i64 64]) (.int .i64 4)).run Tryz.prog w = .ok (.int .i64 32) w:=fun _=>by kernel_rfl
     clear h9 h16
     rw[show atF 2 13=32 from rfl]
     go_enter Tryz.func107,Tryz.ntmps107
     go_wp2
     go_ret2
     exact⟨rfl,rfl⟩
    ·have hix:∀w,(Instr.index 177 (.agg #[.int .i64 12,.int .i64 16,.int .i64 20,.int .i64 24,.int .i64 32,.int .i64 48,.int .i64 64]) (.int .i64 5)).run Tryz.prog w = .ok (.int .i64 48) w:=fun _=>by kernel_rfl
     clear h9 h16
     rw[show atF 2 14=48 from rfl]
     go_enter Tryz.func107,Tryz.ntmps107
     go_wp2
     go_ret2
     exact⟨rfl,rfl⟩
    ·have hix:∀w,(Instr.index 177 (.agg #[.int .i64 12,.int .i64 16,.int .i64 20,.int .i64 24,.int .i64 32,.int .i64 48,.int .i64 64]) (.int .i64 6)).run Tryz.prog w = .ok (.int .i64 64) w:=fun _=>by kernel_rfl
     clear h9 h16
     rw[show atF 2 15=64 from rfl]
     go_enter Tryz.func107,Tryz.ntmps107
     go_wp2
     go_ret2
     exact⟨rfl,rfl⟩
  ·have h20:d < 2048:=hd
   rw[at3]
   clear hd
   go_enter Tryz.func107,Tryz.ntmps107
   go_wp2
   go_ret2
   exact⟨rfl,rfl⟩
  ·simp[z0R,h1,h2,h3]at hd
 ·rw[(zaL hg).1,(zaL hg).2]
  rcases z0H k with (rfl | rfl | rfl) | ⟨h1,h2,h3⟩
  ·have hn:¬(0<=c/\c < 9):=hg
   clear hg
   by_cases h0:0<=c
   ·have hb:9<=c:=by omega
    clear hn
    go_enter Tryz.func107,Tryz.ntmps107
    go_wp2
    go_ret2
    exact⟨rfl,rfl⟩
   ·have hb:c < 0:=by omega
    clear hn h0
    go_enter Tryz.func107,Tryz.ntmps107
    go_wp2
    go_ret2
    exact⟨rfl,rfl⟩
  ·have hn:¬(0<=c/\c < 16):=hg
   clear hg
   by_cases h0:0<=c
   ·have hb:16<=c:=by omega
    clear hn
    go_enter Tryz.func107,Tryz.ntmps107
    go_wp2
    go_ret2
    exact⟨rfl,rfl⟩
   ·have hb:c < 0:=by omega
    clear hn h0
    go_enter Tryz.func107,Tryz.ntmps107
    go_wp2
    go_ret2
    exact⟨rfl,rfl⟩
  ·have hn:¬(0<=c/\c < 2048):=hg
   clear hg
   by_cases h0:0<=c
   ·have hb:2048<=c:=by omega
    clear hn
    go_enter Tryz.func107,Tryz.ntmps107
    go_wp2
    go_ret2
    exact⟨rfl,rfl⟩
   ·have hb:c < 0:=by omega
    clear hn h0
    go_enter Tryz.func107,Tryz.ntmps107
    go_wp2
    go_ret2
    exact⟨rfl,rfl⟩
  ·have d1:(k==1)=false:=by simpa using h1
   have d2:(k==2)=false:=by simpa using h2
   have d3:(k==3)=false:=by simpa using h3
   clear h1 h2 h3 hg
   go_enter Tryz.func107,Tryz.ntmps107
   go_wp2
   go_ret2
   exact⟨rfl,rfl⟩
theorem z0e (k s:Int) (w:World) :
    Calls Tryz.prog 81 #[.int .i64 k,.int .i64 s] w fun e w'=>e = .returned (.tuple #[.int .i64 (z0s k s:Nat),.int .i64 (z0t k s:Nat)])/\Nb w w':=by
 have hR:=zH (zap k)
 go_enter Tryz.func81,Tryz.ntmps81
 go_wp2
 go_loopw [6] (fun i wr=>∃c:Nat,c<=2048/\i = .int .i64 c/\(∀j:Nat,j < c->¬(isC k j=true/\(z0m k j:Int)=s))/\Nb w wr) (fun i _=>2048 - (intOf i).toNat)
 case atStart=>exact⟨0,by omega,rfl,fun j hj=>by omega,Nb.rfl⟩
 case round =>
  obtain⟨c,hc,rfl,hall,hnb⟩:=hrel
  have HA:=zH hall
  clear hall
  by_cases hlt:c < 2048
  ·cases hi:isC k c with
   | false =>
     have HI:=zH hi
     have hr:=hR.out c wr
     rw[show z1c k c=2 by simp[z1c,hi],show z0m k c=0 by simp[z0m,hi]]at hr
     have H1:=zH hr
     clear hr hi
     go_wp2_with fail
     refine H1.out.mono ?_
     rintro e w2 ⟨rfl,rfl⟩
     go_wp2
     go_roundw
     case rel=>exact⟨c+1,by omega,by go_num,fun j hj h=>by
      rcases Nat.lt_succ_iff_lt_or_eq.1 hj with h1 | rfl
      ·exact HA.out j h1 h
      ·rw[HI.out]at h;exact Bool.noConfusion h.1,hnb⟩
     case measure=>simp[intOf];omega
   | true =>
     have hr:=hR.out c wr
     rw[show z1c k c=0 by simp[z1c,hi]]at hr
     have HI:=zH hi
     obtain⟨y,hy⟩:∃y,z0m k c=y:=⟨_,rfl⟩
     rw[hy]at hr
     have HY:=zH hy
     have H1:=zH hr
     clear hr hi hy
     by_cases hs:(y:Int)=s
     ·have hs':((y:Int)==s)=true:=by simpa using hs
      obtain⟨e1,e2⟩:=z7m k s c HI.out (by rw[HY.out];exact hs)
      have E:=zH (And.intro e1 e2)
      have HSs:=zH hs
      clear e1 e2 hs
      go_wp2_with fail
      refine H1.out.mono ?_
      rintro e w2 ⟨rfl,rfl⟩
      go_wp2
      go_ret2
      rw[E.out.1,E.out.2]
      exact⟨rfl,hnb⟩
     ·have hs':((y:Int)==s)=false:=by simpa using hs
      have HSs:=zH hs
      clear hs
      go_wp2_with fail
      refine H1.out.mono ?_
      rintro e w2 ⟨rfl,rfl⟩
      go_wp2
      go_roundw
      case rel=>exact⟨c+1,by omega,by go_num,fun j hj h=>by
       rcases Nat.lt_succ_iff_lt_or_eq.1 hj with h1 | rfl
       ·exact HA.out j h1 h
       ·rw[HY.out]at h;exact absurd h.2 (by have:=HSs.out;omega),hnb⟩
      case measure=>simp[intOf];omega
  ·obtain rfl:c=2048:=by omega
   obtain⟨e1,e2⟩:=zeM k s HA.out
   have E:=zH (And.intro e1 e2)
   clear e1 e2
   go_wp2
   go_ret2
   rw[E.out.1,E.out.2]
   exact⟨rfl,hnb⟩
end Go.Proofs.YtplbmlpdefpplaaGreatDoor
