/- What a check sum is, as a number: a kind's rule, a step, a run; and what follows from that. No program here. No conditions. Contracts of the check sums' functions: find, Size, take, each, More, Sum. Condition: the package's table of kinds holds what the program's text lays there. Contracts of More and Sum, the program's and the document's. Condition: the package's table of kinds holds what the program's text lays there. Contracts of the document's run, More and Sum. No conditions. Contracts of slices.Grow and slices.Concat at two rows of bytes that are not both empty. Condition: sizes below 2 to the 46. Contracts of Add and Fits. Condition: the package's table of kinds holds what the program's text lays there. Of rows and their check sums as numbers: a row fits just if its whole run ends at nothing; runs belong together bit by bit; what differs within a burst doesn't fit. No program here. No conditions. What a row's list of package-level variables gives: the table of kinds holds what the program's text lays there. No conditions. -/
import Derived.Test.YtkjjfnmeogpdbaaGreatDoorGb
import Derived.RegionTactic
import Derived.StillTailTactics
import Derived.OwnWalk
import Derived.Test.YtkjjfnmeogpdbaaGreatDoorGa
import Derived.Lib.AppendZeros
import Derived.Test.YtkjjfnmeogpdbaaGreatDoorRows
import Derived.LaidMore
import Derived.OpenShut
import Derived.Deep.Strs
set_option maxHeartbeats 1600000
set_option maxRecDepth 100000
namespace Go.Proofs.YtkjjfnmeogpdbaaGreatDoor
set_option linter.unusedVariables false
set_option linter.unusedSimpArgs false
open Go.RowKit
def z86(k:Int):Nat × Nat × Nat :=
 if k=1 then(15,17817,0)else if k=2 then(17,92251,65536)else if k=3 then(21,1058969,1048576)else if k=4 then(13,6631,1)else if k=5 then(32,4104977171,1) else(0,0,0)
def szK(k:Int):Nat:=(z86 k).1
def z04(k:Int):Nat:=(z86 k).2.1
def zG(k:Int):Nat:=(z86 k).2.2
theorem z1H(k:Int):(k=1\/k=2\/k=3\/k=4\/k=5)\/(z86 k=(0,0,0)/\k≠1/\k≠2/\k≠3/\k≠4/\k≠5):=by
 unfold z86
 by_cases h1:k=1;· exact .inl (.inl h1)
 by_cases h2:k=2;· exact .inl (.inr (.inl h2))
 by_cases h3:k=3;· exact .inl (.inr (.inr (.inl h3)))
 by_cases h4:k=4;· exact .inl (.inr (.inr (.inr (.inl h4))))
 by_cases h5:k=5;· exact .inl (.inr (.inr (.inr (.inr h5))))
 exact .inr ⟨by simp[h1,h2,h3,h4,h5],h1,h2,h3,h4,h5⟩
structure zgS(n p s:Nat):Prop where
 pos:13<=n
 le:n<=32
 poly:p < 2^n
 odd:p%2=1
 start:s < 2^n
theorem z1t(k:Int)(h:szK k≠0):zgS (szK k) (z04 k) (zG k):=by
 rcases z1H k with (rfl | rfl | rfl | rfl | rfl) | ⟨h1,_⟩
 ·exact⟨by decide,by decide,by decide,by decide,by decide⟩
 ·exact⟨by decide,by decide,by decide,by decide,by decide⟩
 ·exact⟨by decide,by decide,by decide,by decide,by decide⟩
 ·exact⟨by decide,by decide,by decide,by decide,by decide⟩
 ·exact⟨by decide,by decide,by decide,by decide,by decide⟩
 ·simp[szK,h1]at h
def z2k(n p s b:Nat):Nat:=if s / 2^(n - 1)=b then s*2%2^n else(s*2%2^n) ^^^ p
def z3t(n p s:Nat)(l:List Nat):Nat:=l.foldl (z2k n p) s
theorem runC_nil(n p s:Nat):z3t n p s []=s:=rfl
theorem runC_append(n p s:Nat)(l m:List Nat):z3t n p s (l++m)=z3t n p (z3t n p s l) m:=by simp[z3t]
theorem z52(n p s:Nat)(l:List Nat)(b:Nat):z3t n p s (l++[b])=z2k n p (z3t n p s l) b:=by simp[z3t]
theorem zd6(n p s:Nat)(l:List Nat)(b:Nat):z3t n p s (b::l)=z3t n p (z2k n p s b) l:=by simp[z3t]
theorem z5V{n p s b:Nat}(hp:p < 2^n):z2k n p s b < 2^n:=by
 have h:s*2%2^n < 2^n:=Nat.mod_lt _ (Nat.two_pow_pos n)
 unfold z2k
 split
 ·exact h
 ·exact Nat.xor_lt_two_pow h hp
theorem z3D{n p:Nat}(hp:p < 2^n):∀(l:List Nat) (s:Nat),s < 2^n->z3t n p s l < 2^n:=by
 intro l
 induction l with
 | nil=>intro s h;exact h
 | cons b l ih=>intro s _;rw[zd6];exact ih _ (z5V hp)
theorem zf9{n s:Nat}(hn:1<=n)(hs:s < 2^n):s / 2^(n - 1)<=1:=by
 have:2^n=2^(n - 1)*2:=by rw[<- Nat.pow_succ];congr 1;omega
 have h2:s / 2^(n - 1) < 2:=Nat.div_lt_of_lt_mul (by omega)
 omega
def z9j:List Value:=[.int .i64 0,.int .u64 0,.int .u64 0,.int .i64 15,.int .u64 17817,.int .u64 0,.int .i64 17,.int .u64 92251,.int .u64 65536,.int .i64 21,.int .u64 1058969,.int .u64 1048576,.int .i64 13,.int .u64 6631,.int .u64 1,.int .i64 32,.int .u64 4104977171,.int .u64 1]
def z1n(w:World):Prop:=∀i v,z9j[i]? = some v->w.cell? ⟨1,i,none⟩=some v
theorem z1n.below{w w':World}(h:z1n w)(hb:Nb w w'):z1n w':=fun i v hv=>by
 have:=h i v hv
 rw[hb.cell (p:=⟨1,i,none⟩) (World.block_lt_of_cell? _ _ this)]
 exact this
theorem z2Q (k:Int) (w:World) (h:z1n w) :
    Calls Tryz.prog 231 #[.int .i64 k] w fun e w'=>e = .returned (.agg #[.int .i64 (szK k),.int .u64 (z04 k),.int .u64 (zG k)])/\Nb w w':=by
 by_cases h0:k < 0
 ·have e:z86 k=(0,0,0):=by rcases z1H k with (h | h | h | h | h) | h<;>first | exact h.1 | omega
  simp only[szK,z04,zG,e]
  go_enter Tryz.func231,Tryz.ntmps231
  go_wp2
  exact bodyPost_ret (v := .agg #[.int .i64 0,.int .u64 0,.int .u64 0]) (by simp[results,Tryz.results231,go_sem]) rfl ⟨rfl,Nb.rfl.al _⟩
 by_cases h6:6<=k
 ·have e:z86 k=(0,0,0):=by rcases z1H k with (h | h | h | h | h) | h<;>first | exact h.1 | omega
  simp only[szK,z04,zG,e]
  go_enter Tryz.func231,Tryz.ntmps231
  go_wp2
  exact bodyPost_ret (v := .agg #[.int .i64 0,.int .u64 0,.int .u64 0]) (by simp[results,Tryz.results231,go_sem]) rfl ⟨rfl,Nb.rfl.al _⟩
 rcases(by omega:k=0\/k=1\/k=2\/k=3\/k=4\/k=5)with rfl | rfl | rfl | rfl | rfl | rfl
 ·have c0:=h 0 _ rfl
  have c1:=h 1 _ rfl
  have c2:=h 2 _ rfl
  have hlt:1 < w.heap.size:=World.block_lt_of_cell? _ _ c0
  clear h h0 h6
  go_enter Tryz.func231,Tryz.ntmps231
  go_wp2
  exact bodyPost_ret (v := .agg #[.int .i64 (szK 0),.int .u64 (z04 0),.int .u64 (zG 0)]) (by simp[results,Tryz.results231,go_sem];exact⟨rfl,rfl,rfl⟩) rfl ⟨rfl,Nb.rfl.al _⟩
 ·have c0:=h 3 _ rfl
  have c1:=h 4 _ rfl
  have c2:=h 5 _ rfl
  have hlt:1 < w.heap.size:=World.block_lt_of_cell? _ _ c0
  clear h h0 h6
  go_enter Tryz.func231,Tryz.ntmps231
  go_wp2
  exact bodyPost_ret (v := .agg #[.int .i64 (szK 1),.int .u64 (z04 1),.int .u64 (zG 1)]) (by simp[results,Tryz.results231,go_sem];exact⟨rfl,rfl,rfl⟩) rfl ⟨rfl,Nb.rfl.al _⟩
 ·have c0:=h 6 _ rfl
  have c1:=h 7 _ rfl
  have c2:=h 8 _ rfl
  have hlt:1 < w.heap.size:=World.block_lt_of_cell? _ _ c0
  clear h h0 h6
  go_enter Tryz.func231,Tryz.ntmps231
  go_wp2
  exact bodyPost_ret (v := .agg #[.int .i64 (szK 2),.int .u64 (z04 2),.int .u64 (zG 2)]) (by simp[results,Tryz.results231,go_sem];exact⟨rfl,rfl,rfl⟩) rfl ⟨rfl,Nb.rfl.al _⟩
 ·have c0:=h 9 _ rfl
  have c1:=h 10 _ rfl
  have c2:=h 11 _ rfl
  have hlt:1 < w.heap.size:=World.block_lt_of_cell? _ _ c0
  clear h h0 h6
  go_enter Tryz.func231,Tryz.ntmps231
  go_wp2
  exact bodyPost_ret (v := .agg #[.int .i64 (szK 3),.int .u64 (z04 3),.int .u64 (zG 3)]) (by simp[results,Tryz.results231,go_sem];exact⟨rfl,rfl,rfl⟩) rfl ⟨rfl,Nb.rfl.al _⟩
 ·have c0:=h 12 _ rfl
  have c1:=h 13 _ rfl
  have c2:=h 14 _ rfl
  have hlt:1 < w.heap.size:=World.block_lt_of_cell? _ _ c0
  clear h h0 h6
  go_enter Tryz.func231,Tryz.ntmps231
  go_wp2
  exact bodyPost_ret (v := .agg #[.int .i64 (szK 4),.int .u64 (z04 4),.int .u64 (zG 4)]) (by simp[results,Tryz.results231,go_sem];exact⟨rfl,rfl,rfl⟩) rfl ⟨rfl,Nb.rfl.al _⟩
 ·have c0:=h 15 _ rfl
  have c1:=h 16 _ rfl
  have c2:=h 17 _ rfl
  have hlt:1 < w.heap.size:=World.block_lt_of_cell? _ _ c0
  clear h h0 h6
  go_enter Tryz.func231,Tryz.ntmps231
  go_wp2
  exact bodyPost_ret (v := .agg #[.int .i64 (szK 5),.int .u64 (z04 5),.int .u64 (zG 5)]) (by simp[results,Tryz.results231,go_sem];exact⟨rfl,rfl,rfl⟩) rfl ⟨rfl,Nb.rfl.al _⟩
theorem zbU(a b c:Value)(w:World):(Instr.field 288 (.agg #[a,b,c]) 0).run Tryz.prog w = .ok a w:=by kernel_rfl
theorem zcC(a b c:Value)(w:World):(Instr.field 288 (.agg #[a,b,c]) 2).run Tryz.prog w = .ok c w:=by kernel_rfl
theorem z5W (k:Int) (w:World) (h:z1n w) :
    Calls Tryz.prog 216 #[.int .i64 k] w fun e w'=>e = .returned (.int .i64 (szK k))/\Nb w w':=by
 have hf:=@zbU
 go_enter Tryz.func216,Tryz.ntmps216
 go_wp2_with fail
 refine(z2Q k _ h).mono ?_
 rintro e w1 ⟨rfl,hnb⟩
 go_wp2
 go_ret
 exact⟨rfl,hnb⟩
theorem Blk.drewN{w:World}{R:Nat}{cs:Array Value}{t:TypeId}(h:Blk w R cs t)(n:Nat):Blk (w.drewN n) R cs t:=h
theorem zaJ (n s:Nat) (h32:n<=32) (hs:s < 2^n) :
    bits BinOp.and IntKind.u64 ((s:Int)*2) (IntKind.u64.wrap (IntKind.u64.wrap (2^n) - 1))=((s*2%2^n:Nat):Int):=by
 have h1:(2:Nat)^n<=4294967296:=Nat.pow_le_pow_right (by omega) h32
 have h0:0 < (2:Nat)^n:=Nat.two_pow_pos n
 have h2:=bits_and_u64_nat (s*2) (2^n - 1) (by omega) (by omega)
 rw[Nat.and_two_pow_sub_one_eq_mod]at h2
 have h3:(2:Int)^n=((2^n:Nat):Int):=by push_cast;rfl
 have e2:IntKind.u64.wrap (IntKind.u64.wrap (2^n) - 1)=((2^n - 1:Nat):Int):=by
  rw[h3,IntKind.wrap_u64,IntKind.wrap_u64]
  omega
 rw[<- h2,e2]
 congr 1
theorem zej (R n p s0 s b:Nat) (w:World) (h:Blk w R #[.int .i64 n,.int .u64 p,.int .u64 s0,.int .u64 s] 301) (hn:1<=n) (h32:n<=32) (hp:p < 2^n) (hs:s < 2^n) (hb:b<=1) :
    Calls Tryz.prog 244 #[.pointer (some ⟨R,0,none⟩),.int .u8 b] w fun e w'=>e = .returned (.tuple #[])/\Blk w' R #[.int .i64 n,.int .u64 p,.int .u64 s0,.int .u64 (z2k n p s b)] 301/\Kp (·=R) w w':=by
 have c0:w.cell? ⟨R,0,none⟩=some (.int .i64 n):=h.cell 0
 have c1:w.cell? ⟨R,1,none⟩=some (.int .u64 p):=h.cell 1
 have c3:w.cell? ⟨R,3,none⟩=some (.int .u64 s):=h.cell 3
 have f3:=h.frozen 3
 have hR:=h.lt
 obtain⟨q,hq⟩:∃q,q=s / 2^(n - 1):=⟨_,rfl⟩
 obtain⟨m,hm⟩:∃m,m=s*2%2^n:=⟨_,rfl⟩
 have HS:Hid (z2k n p s b=if q=b then m else m ^^^ p):=zH (by rw[hq,hm];rfl)
 have HE:Hid (bits BinOp.and IntKind.u64 ((s:Int)*2) (IntKind.u64.wrap (IntKind.u64.wrap (2^n) - 1))=(m:Int)):=zH (by rw[hm];exact zaJ n s h32 hs)
 have H1:Hid ((s:Int) / 2^(n - 1)=(q:Int)):=zH (by rw[hq];push_cast;rfl)
 have HB:=zH h
 have hm2:m < 2^n:=by rw[hm];exact Nat.mod_lt _ (Nat.two_pow_pos n)
 have h64:(2:Nat)^n<=4294967296:=Nat.pow_le_pow_right (by omega) h32
 have hpb:p < 18446744073709551616:=by omega
 have hmb:m < 18446744073709551616:=by omega
 have hsb:s < 4294967296:=by omega
 have HX:=zH (bits_xor_u64_nat m p hmb hpb)
 have hq1:q<=1:=by rw[hq];exact zf9 hn hs
 clear h hq hm hm2 h64 hp hs
 go_enter Tryz.func244,Tryz.ntmps244
 go_wp2
 go_quiet (fail)
 go_wp2
 go_region
 rw[HE.out,H1.out]
 by_cases hqb:q=b
 ·have hd:((q:Int) != (b:Int))=false:=by rw[bne_eq_false_iff_eq];omega
  have HS2:=zH (HS.out.trans (if_pos hqb))
  clear hqb
  go_wp2
  go_end0
  rw[HS2.out]
  exact⟨rfl,(HB.out.drewN _).set 3 _,(Kp.ofNb (Nb.drewN _ _)).tr (Kp.set (F:=(·=R)) rfl) (fun _ h => .inl h)⟩
 ·have hd:((q:Int) != (b:Int))=true:=by rw[bne_iff_ne];omega
  have HS2:=zH (HS.out.trans (if_neg hqb))
  clear hqb
  go_wp2
  go_region
  go_wp2
  go_end0
  rw[HS2.out]
  refine⟨rfl,?_,?_⟩
  ·have:=(((HB.out.drewN (nq+1)).set 3 (.int .u64 m)).set 3 (.int .u64 (m ^^^ p:Nat))).drewN 1
   rw[HX.out]
   exact this
  ·exact(((Kp.ofNb (F:=(·=R)) (Nb.drewN _ _)).tr (Kp.set (F:=(·=R)) rfl) (fun _ h => .inl h)).tr (Kp.set (F:=(·=R)) rfl) (fun _ h => .inl h)).tr (Kp.ofNb (Nb.drewN _ 1)) (fun _ h => .inl h)
theorem z8y (F:Nat) (p:Value) (a:Option Addr) (cap:Nat) (l:List Nat) (I:Nat->World->Prop) (w:World) (hL:l.length<=9223372036854775807) (h0:I 0 w)
    (hbs:∀k w,I k w->Bs w a cap l)
    (hcf:∀args w,(callFunc F args).run Tryz.prog w = .ok (.enter F args) w)
    (hstep:∀k x w,I k w->l[k]? = some x->Calls Tryz.prog F #[p,.int .u8 (x:Int)] w fun e w'=>e = .returned (.tuple #[])/\I (k+1) w') :
    Calls Tryz.prog 243 #[.slice a l.length cap,.func (.func F) #[p] #[]] w fun e w'=>e = .returned (.tuple #[])/\I l.length w':=by
 have HB:=zH hbs
 have HS:=zH hstep
 clear hbs hstep
 go_enter Tryz.func243,Tryz.ntmps243
 go_wp2
 go_loopw [8] (fun i wr=>∃k:Nat,k<=l.length/\i = .int .i64 k/\I k wr) (fun i _=>l.length - (intOf i).toNat)
 case atStart=>exact⟨0,Nat.zero_le _,rfl,h0⟩
 case round =>
  obtain⟨k,hk,rfl,hI⟩:=hrel
  by_cases hlt:k < l.length
  ·obtain⟨b,o,rfl,hc⟩:=(HB.out k wr hI).hcells (by omega)
   obtain⟨x,hx⟩:∃x,l[k]? = some x:=⟨l[k],by simp[hlt]⟩
   have c1:=hc k hlt
   rw[show l.getD k 0=x from by simp[List.getD,hx]]at c1
   have HX:=zH hx
   clear hc hx
   go_wp2_with fail
   refine(HS.out k x wr hI HX.out).mono ?_
   rintro e w' ⟨rfl,hI'⟩
   go_wp2
   go_roundw
   case rel=>exact⟨k+1,by omega,by go_num,hI'⟩
   case measure=>simp[intOf];omega
  ·obtain rfl:k=l.length:=by omega
   go_wp2
   go_end0
   exact⟨rfl,hI⟩
def z0A(k:Int)(s:Nat)(l:List Nat):Bool:=decide (szK k≠0)&&decide (s < 2^szK k)&&chk l
def z3W(k:Int)(s:Nat)(l:List Nat):Nat:=if z0A k s l then z3t (szK k) (z04 k) s l else 0
def z4G(k:Int)(s:Nat)(l:List Nat):Nat:=if z0A k s l then 0 else 2
theorem zci (k:Int) (s:Nat) (a:Option Addr) (cap:Nat) (l:List Nat) (w:World) (hk:z1n w) (h:Bs w a cap l) (hz:szK k≠0) (hs:s < 2^szK k) (hc:chk l=true) :
    Calls Tryz.prog 230 #[.int .i64 k,.int .u64 s,.slice a l.length cap] w fun e w'=>e = .returned (.tuple #[.int .u64 (z3t (szK k) (z04 k) s l),.int .i64 0])/\Nb w w':=by
 have hL:=h.len
 have H:=zH h
 have HC:=zH hc
 have hbit:=zH (z0D hc)
 obtain⟨n1,n2,n3,_,_⟩:=z1t k hz
 have hd1:((szK k:Int)==0)=false:=by rw[beq_eq_false_iff_ne];omega
 have hd2:((s:Int) / 2^szK k != 0)=false:=by
  have e:((s:Int) / 2^szK k)=((s / 2^szK k:Nat):Int):=by push_cast;rfl
  rw[e,Nat.div_eq_of_lt hs];rfl
 have HS:=zH hs
 have N3:=zH n3
 have hmf:∀(fn:Fn) (first cap:Array Value) (w:World),(Instr.makeFunc fn first cap).run Tryz.prog w = .ok (.func fn first cap) w:=fun _ _ _ _=>rfl
 have hs64:s < 18446744073709551616:=by
  have:(2:Nat)^szK k<=4294967296:=Nat.pow_le_pow_right (by omega) n2
  omega
 clear h hc hs n3
 go_enter Tryz.func230,Tryz.ntmps230
 go_wp2_with fail
 refine(z2Q k w hk).mono ?_
 rintro e w1 ⟨rfl,hnb⟩
 go_wp2_with fail
 refine(z2W a cap l _ (H.out.below (hnb.al _)) HC.out).mono ?_
 rintro e w2 ⟨rfl,rfl⟩
 go_wp2_with fail
 refine(z8y 244 (.pointer (some ⟨w1.heap.size,0,none⟩)) a cap l (fun j wr=>Blk wr w1.heap.size #[.int .i64 (szK k),.int .u64 (z04 k),.int .u64 (zG k),.int .u64 (z3t (szK k) (z04 k) s (l.take j))] 301/\Nb w wr) _ hL ⟨Blk.new _ _ _,hnb.al _⟩ (fun j wr hI=>H.out.below hI.2) (hcf _ _ Tryz.func244 (by rfl) (by decide +kernel)) ?_).mono ?_
 ·rintro j x wr ⟨hb,hn⟩ hx
  refine(zej w1.heap.size (szK k) (z04 k) (zG k) _ x wr hb (by omega) n2 N3.out (z3D N3.out _ _ HS.out) (hbit.out x (List.mem_of_getElem? hx))).mono ?_
  rintro e w' ⟨rfl,hb',hk'⟩
  exact⟨rfl,by rw[zJ hx,z52];exact hb',hn.trans (hk'.toBelow hn.size (by rintro k rfl;exact hnb.size))⟩
 ·rintro e w2 ⟨rfl,hb,hn⟩
  rw[List.take_of_length_le (Nat.le_refl _)]at hb
  have c0:w2.cell? ⟨w1.heap.size,3,none⟩=_:=hb.cell 3
  clear hb
  go_wp2
  go_ret2
  exact⟨rfl,hn⟩
theorem zf5 (k:Int) (s:Nat) (a:Option Addr) (cap:Nat) (l:List Nat) (w:World) (hk:z1n w) (h:Bs w a cap l) (hs64:s < 18446744073709551616) (hm:z0A k s l=false) :
    Calls Tryz.prog 230 #[.int .i64 k,.int .u64 s,.slice a l.length cap] w fun e w'=>e = .returned (.tuple #[.int .u64 0,.int .i64 2])/\Nb w w':=by
 have hL:=h.len
 by_cases hz:szK k=0
 ·have hd1:((szK k:Int)==0)=true:=by rw[beq_iff_eq];omega
  clear hm
  go_enter Tryz.func230,Tryz.ntmps230
  go_wp2_with fail
  refine(z2Q k w hk).mono ?_
  rintro e w1 ⟨rfl,hnb⟩
  go_wp2
  go_ret2
  exact⟨rfl,hnb.al _⟩
 ·obtain⟨n1,n2,_,_,_⟩:=z1t k hz
  have hd1:((szK k:Int)==0)=false:=by rw[beq_eq_false_iff_ne];omega
  have e:((s:Int) / 2^szK k)=((s / 2^szK k:Nat):Int):=by push_cast;rfl
  by_cases hs:s < 2^szK k
  ·have hc:chk l=false:=by simpa [z0A,hz,hs]using hm
   have H:=zH h
   have HC:=zH hc
   have hd2:((s:Int) / 2^szK k != 0)=false:=by rw[e,Nat.div_eq_of_lt hs];rfl
   clear h hc hm e hs
   go_enter Tryz.func230,Tryz.ntmps230
   go_wp2_with fail
   refine(z2Q k w hk).mono ?_
   rintro e w1 ⟨rfl,hnb⟩
   go_wp2_with fail
   refine(z3a a cap l _ (H.out.below (hnb.al _)) HC.out).mono ?_
   rintro e w2 ⟨rfl,rfl⟩
   go_wp2
   go_ret2
   exact⟨rfl,hnb.al _⟩
  ·have hd2:((s:Int) / 2^szK k != 0)=true:=by
    rw[e,bne_iff_ne]
    have:0 < s / 2^szK k:=Nat.div_pos (by omega) (Nat.two_pow_pos _)
    omega
   clear hm e hs
   go_enter Tryz.func230,Tryz.ntmps230
   go_wp2_with fail
   refine(z2Q k w hk).mono ?_
   rintro e w1 ⟨rfl,hnb⟩
   go_wp2
   go_ret2
   exact⟨rfl,hnb.al _⟩
theorem zhi (k:Int) (s:Nat) (a:Option Addr) (cap:Nat) (l:List Nat) (w:World) (hk:z1n w) (h:Bs w a cap l) (hs64:s < 18446744073709551616) :
    Calls Tryz.prog 230 #[.int .i64 k,.int .u64 s,.slice a l.length cap] w fun e w'=>e = .returned (.tuple #[.int .u64 (z3W k s l),.int .i64 (z4G k s l)])/\Nb w w':=by
 cases hm:z0A k s l with
 | true =>
   simp only[z3W,z4G,hm,if_true]
   simp only[z0A,Bool.and_eq_true,decide_eq_true_eq]at hm
   exact zci k s a cap l w hk h hm.1.1 hm.1.2 hm.2
 | false =>
   simp only[z3W,z4G,hm,Bool.false_eq_true,if_false]
   exact zf5 k s a cap l w hk h hs64 hm
theorem z7B(k:Int):zG k < 18446744073709551616:=by
 rcases z1H k with (rfl | rfl | rfl | rfl | rfl) | ⟨h1,_⟩
 iterate 5 decide
 simp[zG,h1]
def zff(k:Int)(l:List Nat):Nat:=z3W k (zG k) l
def ze2(k:Int)(l:List Nat):Nat:=z4G k (zG k) l
theorem zer (k:Int) (a:Option Addr) (cap:Nat) (l:List Nat) (w:World) (hk:z1n w) (h:Bs w a cap l) :
    Calls Tryz.prog 215 #[.int .i64 k,.slice a l.length cap] w fun e w'=>e = .returned (.tuple #[.int .u64 (zff k l),.int .i64 (ze2 k l)])/\Nb w w':=by
 have hf:=@zcC
 have H:=zH h
 have HK:=zH hk
 have HS:=zH (z7B k)
 clear h hk
 go_enter Tryz.func215,Tryz.ntmps215
 go_wp2_with fail
 refine(z2Q k w HK.out).mono ?_
 rintro e w1 ⟨rfl,hnb⟩
 go_wp2_with fail
 refine(zhi k (zG k) a cap l _ (HK.out.below hnb) (H.out.below hnb) HS.out).mono ?_
 rintro e w2 ⟨rfl,hn2⟩
 go_wp2
 go_ret2
 exact⟨rfl,hnb.tr hn2⟩
theorem z51 (k:Int) (w:World) :
    Calls Tryz.prog 135 #[.int .i64 k] w fun e w'=>e = .returned (.tuple #[.int .i64 (szK k),.int .u64 (z04 k),.int .u64 (zG k)])/\w=w':=by
 rcases z1H k with (rfl | rfl | rfl | rfl | rfl) | ⟨h1,g1,g2,g3,g4,g5⟩
 iterate 5
  ·go_enter Tryz.func135,Tryz.ntmps135
   go_wp2
   go_ret3
   exact⟨rfl,rfl⟩
 simp only[szK,z04,zG,h1]
 have d1:(k==1)=false:=by simpa using g1
 have d2:(k==2)=false:=by simpa using g2
 have d3:(k==3)=false:=by simpa using g3
 have d4:(k==4)=false:=by simpa using g4
 have d5:(k==5)=false:=by simpa using g5
 go_enter Tryz.func135,Tryz.ntmps135
 go_wp2
 go_ret3
 exact⟨rfl,rfl⟩
theorem zaB (k:Int) (s:Nat) (a:Option Addr) (cap:Nat) (l:List Nat) (w:World) (h:Bs w a cap l) (hz:szK k≠0) (hs:s < 2^szK k) (hb:∀x∈l,x<=1) :
    Calls Tryz.prog 188 #[.int .i64 k,.int .u64 s,.slice a l.length cap] w fun e w'=>e = .returned (.int .u64 (z3t (szK k) (z04 k) s l))/\Nb w w':=by
 have hL:=h.len
 have H:=zH h
 have hbit:=zH hb
 obtain⟨n1,n2,n3,_,_⟩:=z1t k hz
 have HS:=zH hs
 have N3:=zH n3
 clear h hs n3 hb
 go_enter Tryz.func188,Tryz.ntmps188
 go_wp2_with fail
 refine(z51 k w).mono ?_
 rintro e w1 ⟨rfl,rfl⟩
 go_wp2
 go_loop [1,21] (fun z i=>∃j:Nat,j<=l.length/\i = .int .i64 j/\z = .int .u64 (z3t (szK k) (z04 k) s (l.take j))) (fun _ i=>l.length - (intOf i).toNat)
 case atStart=>exact⟨0,Nat.zero_le _,rfl,rfl⟩
 case round =>
  obtain⟨j,hj,rfl,rfl⟩:=hrel
  by_cases hlt:j < l.length
  ·obtain⟨b,o,rfl,hcl⟩:=H.out.hcells (by omega)
   obtain⟨x,hx⟩:∃x,l[j]? = some x:=⟨l[j],by simp[hlt]⟩
   have c1:=hcl j hlt
   rw[show l.getD j 0=x from by simp[List.getD,hx]]at c1
   have hx1:x<=1:=hbit.out x (List.mem_of_getElem? hx)
   obtain⟨S,hS⟩:∃S,S=z3t (szK k) (z04 k) s (l.take j):=⟨_,rfl⟩
   have hSl:S < 2^szK k:=by rw[hS];exact z3D N3.out _ _ HS.out
   have HT:Hid (z3t (szK k) (z04 k) s (l.take (j+1))=z2k (szK k) (z04 k) S x):=zH (by rw[zJ hx,z52,hS])
   rw[<- hS]
   obtain⟨q,hq⟩:∃q,q=S / 2^(szK k - 1):=⟨_,rfl⟩
   obtain⟨m,hm⟩:∃m,m=S*2%2^szK k:=⟨_,rfl⟩
   have HZ:Hid (z2k (szK k) (z04 k) S x=if q=x then m else m ^^^ z04 k):=zH (by rw[hq,hm];rfl)
   have H1:Hid ((S:Int) / 2^(szK k - 1)=(q:Int)):=zH (by rw[hq];push_cast;rfl)
   have hm2:m < 2^szK k:=by rw[hm];exact Nat.mod_lt _ (Nat.two_pow_pos _)
   have h64:(2:Nat)^szK k<=4294967296:=Nat.pow_le_pow_right (by omega) n2
   have hpb:z04 k < 18446744073709551616:=by have:=N3.out;omega
   have hmb:m < 18446744073709551616:=by omega
   have hSb:S < 4294967296:=by omega
   have HX:=zH (bits_xor_u64_nat m (z04 k) hmb hpb)
   have hq1:q<=1:=by rw[hq];exact zf9 (by omega) hSl
   clear hcl hx hS hq hSl
   obtain⟨P,hP⟩:∃P,P=2^szK k:=⟨_,rfl⟩
   have hP0:0 < P:=by rw[hP];exact Nat.two_pow_pos _
   have hW:IntKind.u64.wrap (2^szK k)=(P:Int):=by
    have e:(2:Int)^szK k=((2^szK k:Nat):Int):=by push_cast;rfl
    rw[e,IntKind.wrap_u64,hP]
    omega
   have HM:Hid ((S:Int)*2%(P:Int)=(m:Int)):=zH (by rw[hm,hP];push_cast;rfl)
   have hqt:((S:Int) / 2^(szK k - 1)).tmod 2=(q:Int):=by rw[H1.out];rcases(by omega:q=0\/q=1)with rfl | rfl<;>rfl
   have HJ:∀z:Int,z=((z3t (szK k) (z04 k) s (l.take (j+1)):Nat):Int)->(∃j1,j1<=l.length/\Value.int IntKind.i64 ((j:Int)+1)=Value.int IntKind.i64 (j1:Int)/\Value.int .u64 z=Value.int .u64 (z3t (szK k) (z04 k) s (l.take j1))):=fun z hz=>⟨j+1,by omega,by simp,by rw[hz]⟩
   have HJ:=zH HJ
   clear hm hP h64 hm2
   by_cases hqx:q=x
   ·have hd:(((S:Int) / 2^(szK k - 1)).tmod 2 != (x:Int))=false:=by rw[hqt,bne_eq_false_iff_eq];omega
    have HZ2:=zH (HZ.out.trans (if_pos hqx))
    clear hqx hqt
    go_wp2
    go_round
    case rel=>exact HJ.out _ (by rw[HT.out,HZ2.out,HM.out])
    case measure=>simp[intOf];omega
   ·have hd:(((S:Int) / 2^(szK k - 1)).tmod 2 != (x:Int))=true:=by rw[hqt,bne_iff_ne];omega
    have HZ2:=zH (HZ.out.trans (if_neg hqx))
    clear hqx hqt
    go_wp2
    go_round
    case rel=>exact HJ.out _ (by rw[HT.out,HZ2.out,HM.out,HX.out])
    case measure=>simp[intOf];omega
  ·obtain rfl:j=l.length:=by omega
   rw[List.take_of_length_le (Nat.le_refl _)]
   go_wp2
   go_ret
   exact⟨rfl,Nb.rfl⟩
theorem zcy (k:Int) (s:Nat) (a:Option Addr) (cap:Nat) (l:List Nat) (w:World) (h:Bs w a cap l) (hs64:s < 18446744073709551616) :
    Calls Tryz.prog 166 #[.int .i64 k,.int .u64 s,.slice a l.length cap] w fun e w'=>e = .returned (.tuple #[.int .u64 (z3W k s l),.int .i64 (z4G k s l)])/\Nb w w':=by
 have hL:=h.len
 have H:=zH h
 clear h
 by_cases hz:szK k=0
 ·have hm:z0A k s l=false:=by simp[z0A,hz]
  simp only[z3W,z4G,hm,Bool.false_eq_true,if_false]
  have hd1:((szK k:Int)==0)=true:=by rw[beq_iff_eq];omega
  clear hm
  go_enter Tryz.func166,Tryz.ntmps166
  go_wp2_with fail
  refine(z51 k w).mono ?_
  rintro e w1 ⟨rfl,rfl⟩
  go_wp2
  go_ret2
  exact⟨rfl,Nb.rfl⟩
 ·obtain⟨n1,n2,_,_,_⟩:=z1t k hz
  have hd1:((szK k:Int)==0)=false:=by rw[beq_eq_false_iff_ne];omega
  obtain⟨P,hP⟩:∃P,P=2^szK k:=⟨_,rfl⟩
  have h64:P<=4294967296:=by rw[hP];exact Nat.pow_le_pow_right (by omega) n2
  have hW:IntKind.u64.wrap (2^szK k)=(P:Int):=by
   have e:(2:Int)^szK k=((2^szK k:Nat):Int):=by push_cast;rfl
   rw[e,IntKind.wrap_u64,hP]
   omega
  cases hc:chk l with
  | false =>
    have hm:z0A k s l=false:=by simp[z0A,hc]
    simp only[z3W,z4G,hm,Bool.false_eq_true,if_false]
    have HC:=zH hc
    clear hm hc hP
    go_enter Tryz.func166,Tryz.ntmps166
    go_wp2_with fail
    refine(z51 k w).mono ?_
    rintro e w1 ⟨rfl,rfl⟩
    go_wp2_with fail
    refine(z7t a cap l _ H.out HC.out).mono ?_
    rintro e w1 ⟨rfl,rfl⟩
    go_wp2
    go_ret2
    exact⟨rfl,Nb.rfl⟩
  | true =>
    have HC:=zH hc
    by_cases hs:s < 2^szK k
    ·have hm:z0A k s l=true:=by simp[z0A,hc,hz,hs]
     simp only[z3W,z4G,hm,if_true]
     have HS:=zH hs
     have hd2:s < P:=by rw[hP];exact hs
     have hd3:decide (P<=s)=false:=by rw[decide_eq_false_iff_not];omega
     clear hm hc hP hs
     go_enter Tryz.func166,Tryz.ntmps166
     go_wp2_with fail
     refine(z51 k w).mono ?_
     rintro e w1 ⟨rfl,rfl⟩
     go_wp2_with fail
     refine(z4q a cap l _ H.out HC.out).mono ?_
     rintro e w1 ⟨rfl,rfl⟩
     go_wp2_with fail
     refine(zaB k s a cap l w H.out hz HS.out (z0D HC.out)).mono ?_
     rintro e w1 ⟨rfl,hnb⟩
     go_wp2
     go_ret2
     exact⟨rfl,hnb⟩
    ·have hm:z0A k s l=false:=by simp[z0A,hs]
     simp only[z3W,z4G,hm,Bool.false_eq_true,if_false]
     have hd2:P<=s:=by omega
     have hd3:decide (P<=s)=true:=by rw[decide_eq_true_eq];omega
     clear hm hc hP hs
     go_enter Tryz.func166,Tryz.ntmps166
     go_wp2_with fail
     refine(z51 k w).mono ?_
     rintro e w1 ⟨rfl,rfl⟩
     go_wp2_with fail
     refine(z4q a cap l _ H.out HC.out).mono ?_
     rintro e w1 ⟨rfl,rfl⟩
     go_wp2
     go_ret2
     exact⟨rfl,Nb.rfl⟩
theorem z9A (k:Int) (a:Option Addr) (cap:Nat) (l:List Nat) (w:World) (h:Bs w a cap l) :
    Calls Tryz.prog 134 #[.int .i64 k,.slice a l.length cap] w fun e w'=>e = .returned (.tuple #[.int .u64 (zff k l),.int .i64 (ze2 k l)])/\Nb w w':=by
 have H:=zH h
 have HS:=zH (z7B k)
 clear h
 go_enter Tryz.func134,Tryz.ntmps134
 go_wp2_with fail
 refine(z51 k w).mono ?_
 rintro e w1 ⟨rfl,rfl⟩
 go_wp2_with fail
 refine(zcy k (zG k) a cap l _ H.out HS.out).mono ?_
 rintro e w2 ⟨rfl,hn2⟩
 go_wp2
 go_ret2
 exact⟨rfl,hn2⟩
theorem z0b.empty{w:World}{g n cap:Nat}{l:List Nat}(h:z0b w (.slice (some ⟨g,0,none⟩) n cap) l):z0b w (.slice (some ⟨g,0,none⟩) 0 cap) []:=by
 obtain⟨⟨h1,h2⟩,h3⟩:=h
 refine⟨⟨by simp,?_⟩,by simp⟩
 rcases h2 with ⟨h2,_⟩ | ⟨g',cap',cur,hv,hb,hh,hn,hm,hs,ht⟩
 ·cases h2
 ·cases hv
  exact .inr ⟨g,cap,cur,by simp,hb,hh,Nat.zero_le _,hm,hs,by simp⟩
theorem z9n (n:Nat) (w:World) (h0:0 < n) (hn:n<=70368744177664) :
    Calls Tryz.prog 125 #[.slice none 0 0,.int .i64 n] w fun e w'=>(∃g c,e = .returned (.slice (some ⟨g,0,none⟩) 0 c)/\z0b w' (.slice (some ⟨g,0,none⟩) 0 c) []/\w.heap.size<=g)/\Nb w w':=by
 obtain⟨i0,hi,hz0,hz1,hz2⟩:=info_parts z4r
 have hge:=grownCap_ge w n 0 5
 have hle:=grownCap_le_maxLen w n 0 5 (by unfold maxLen;omega)
 have hrz:∀ty,_:=fun ty=>Lib.run_append_nil_zeros (P:=Tryz.prog) w 35 3 ty 5 i0 (.int .u8 0) .i64 .i64 Tryz.underlying35 Tryz.underlying3 hi hz0 n h0 (by omega) (by omega) (by rw[hz2];omega)
 have hown:z0b (w.drew.alloc (.cells (Builtin.zeroCells (Value.int .u8 0).cells n++Builtin.zeroCells (Value.int .u8 0).cells (grownCap w n 0 5 - n)) 5)) (.slice (some ⟨w.heap.size,0,none⟩) 0 (grownCap w n 0 5)) []:=by
  refine⟨⟨by simp,.inr ⟨w.heap.size,grownCap w n 0 5,_,by simp,Nat.zero_le _,heap_alloc_new w.drew _,Nat.zero_le _,hle,?_,by simp⟩⟩,by simp⟩
  simp[Builtin.zeroCells,Value.cells]
  omega
 have HO:=zH hown
 have hmx:grownCap w n 0 5<=9223372036854775807:=by unfold maxLen at hle;omega
 obtain⟨G,hG⟩:∃G,G=grownCap w n 0 5:=⟨_,rfl⟩
 rw[<- hG]at hrz hge hmx HO
 clear hown hle hG hi hz0 hz1 hz2
 go_enter Tryz.func125,Tryz.ntmps125
 go_wp2_with (at_builtin;refine Lib.wpList_append_run _ rfl _ _ _ _ rfl _ _ rfl rfl _ _ (hrz _) ?_)
 go_wp2
 go_ret
 exact⟨⟨_,_,rfl,HO.out,Nat.le_refl _⟩,(show Nb w w.drew from Nb.drewN w 1).al _⟩
theorem z23 (b o:Nat) (a1 a2:Option Addr) (c1 c2:Nat) (l1 l2:List Nat) (w:World) (d1:w.cell? ⟨b,o,none⟩=some (.slice a1 l1.length c1)) (d2:w.cell? ⟨b,o+1,none⟩=some (.slice a2 l2.length c2))
    (h1:Bs w a1 c1 l1) (h2:Bs w a2 c2 l2) (h2n:0 < l2.length) (hn1:a1=none->c1=0) (hl1:l1.length<=1000000) (hl2:l2.length<=1000000) :
    Calls Tryz.prog 76 #[.slice (some ⟨b,o,none⟩) 2 2] w fun e w'=>(∃a c,e = .returned (.slice a (l1++l2).length c)/\zh w w' (.slice a (l1++l2).length c) (l1++l2))/\Nb w w':=by
 have hb:=World.block_lt_of_cell? _ _ d1
 simp only at hb
 go_enter Tryz.func76,Tryz.ntmps76
 go_wp2
 go_loop [3,11] (fun s i=>(i = .int .i64 0/\s = .int .i64 0)\/(i = .int .i64 1/\s = .int .i64 (l1.length:Int))\/(i = .int .i64 2/\s = .int .i64 ((l1.length:Int)+(l2.length:Int)))) (fun _ i=>2 - (intOf i).toNat)
 case atStart=>exact .inl ⟨rfl,rfl⟩
 case round =>
  rcases hrel with ⟨rfl,rfl⟩ | ⟨rfl,rfl⟩ | ⟨rfl,rfl⟩
  ·go_wp2
   go_round
   case rel=>exact .inr (.inl ⟨rfl,rfl⟩)
   case measure=>simp[intOf]
  ·go_wp2
   go_round
   case rel=>exact .inr (.inr ⟨rfl,rfl⟩)
   case measure=>simp[intOf]
  ·have H1:=zH h1
   have H2:=zH h2
   have D1:=zH d1
   have D2:=zH d2
   clear h1 h2 d1 d2
   go_wp2_with fail
   have hgr:=z9n (l1.length+l2.length) w (by omega) (by omega)
   rw[show((l1.length+l2.length:Nat):Int)=(l1.length:Int)+(l2.length:Int)from by omega]at hgr
   refine hgr.mono ?_
   rintro e w1 ⟨⟨g,c,rfl,ho,hg⟩,hnb⟩
   clear hgr
   go_wp2
   go_loopw [6,27] (fun v i wr=>((i = .int .i64 0/\zh w wr v [])\/(i = .int .i64 1/\zh w wr v l1)\/(i = .int .i64 2/\zh w wr v (l1++l2)))/\Nb w wr) (fun _ i _=>2 - (intOf i).toNat)
   case atStart=>exact⟨.inl ⟨rfl,ho,by simpa [Value.ownBlock]using hg⟩,hnb⟩
   case round =>
    obtain⟨hrel,hnb2⟩:=hrel
    clear ho hg hnb
    have e1:wr.cell? ⟨b,o,none⟩=some (.slice a1 l1.length c1):=(hnb2.cell (p:=⟨b,o,none⟩) hb).trans D1.out
    have e2:wr.cell? ⟨b,o+1,none⟩=some (.slice a2 l2.length c2):=(hnb2.cell (p:=⟨b,o+1,none⟩) hb).trans D2.out
    rcases hrel with ⟨rfl,ho⟩ | ⟨rfl,ho⟩ | ⟨rfl,ho⟩
    ·go_wp2_with (at_builtin;refine zd _ rfl (.tmp 31) (.tmp 32) rfl _ [] rfl ho.1 a1 c1 l1 l1.length rfl rfl (H1.out.below hnb2) (by intro h;subst h;exact⟨by rw[H1.out.none_len];rfl,hn1 rfl⟩) (by simp;omega) ?_)
     intro v' w2 hown' hk hfr
     have hrel:zh w w2 v' l1:=⟨hown',fun g hg=>by
      rcases hfr g hg with h | h
      ·exact ho.2 g h
      ·exact Nat.le_trans hnb2.size h⟩
     have hnb3:Nb w w2:=hnb2.trans (hk.toBelow hnb2.size ho.2)
     clear hown' hk hfr ho e1 e2 hnb2
     go_wp2
     go_roundw
     case rel=>exact⟨.inr (.inl ⟨rfl,hrel⟩),hnb3⟩
     case measure=>simp[intOf]
    ·go_wp2_with (at_builtin;refine zd _ rfl (.tmp 31) (.tmp 32) rfl _ l1 rfl ho.1 a2 c2 l2 l2.length rfl rfl (H2.out.below hnb2) (by intro h;subst h;have:=H2.out.none_len;subst this;simp at h2n) (by omega) ?_)
     intro v' w2 hown' hk hfr
     have hrel:zh w w2 v' (l1++l2):=⟨hown',fun g hg=>by
      rcases hfr g hg with h | h
      ·exact ho.2 g h
      ·exact Nat.le_trans hnb2.size h⟩
     have hnb3:Nb w w2:=hnb2.trans (hk.toBelow hnb2.size ho.2)
     clear hown' hk hfr ho e1 e2 hnb2
     go_wp2
     go_roundw
     case rel=>exact⟨.inr (.inr ⟨rfl,hrel⟩),hnb3⟩
     case measure=>simp[intOf]
    ·obtain⟨a',c',rfl,hbs,_⟩:=ho.1.bs
     have HO:=zH ho
     clear ho hbs e1 e2
     go_wp2
     go_ret
     exact⟨⟨_,_,rfl,HO.out⟩,hnb2⟩
def z4k(k:Int)(l:List Nat):List Nat:=if z0A k (zG k) l then l++zc (z3t (szK k) (z04 k) (zG k) l) (szK k)else []
def z1J(k:Int)(l:List Nat):Bool :=
 decide (szK k≠0)&&decide (szK k<=l.length)&&chk l&&decide (zB (l.drop (l.length - szK k))=z3t (szK k) (z04 k) (zG k) (l.take (l.length - szK k)))
theorem z4D{k:Int}{l:List Nat}(h:z0A k (zG k) l=true):zff k l=z3t (szK k) (z04 k) (zG k) l/\ze2 k l=0:=by simp[zff,ze2,z3W,z4G,h]
theorem z9T{k:Int}{l:List Nat}(h:z0A k (zG k) l=false):zff k l=0/\ze2 k l=2:=by simp[zff,ze2,z3W,z4G,h]
theorem z2L{k:Int}{s:Nat}{l:List Nat}(h:z0A k s l=true):szK k≠0/\s < 2^szK k/\chk l=true:=by
 simp only[z0A,Bool.and_eq_true,decide_eq_true_eq]at h
 exact⟨h.1.1,h.1.2,h.2⟩
theorem z2H{k:Int}{l:List Nat}(hz:szK k≠0)(hc:chk l=true):z0A k (zG k) l=true:=by
 simp[z0A,hz,hc,(z1t k hz).start]
theorem zfR (k:Int) (a:Option Addr) (cap:Nat) (l:List Nat) (w:World) (hk:z1n w) (h:Bs w a cap l) (hn:a=none->cap=0) :
    Calls Tryz.prog 192 #[.int .i64 k,.slice a l.length cap] w fun e w'=>(∃a' c',e = .returned (.tuple #[.slice a' (z4k k l).length c',.int .i64 (ze2 k l)])/\zh w w' (.slice a' (z4k k l).length c') (z4k k l))/\Nb w w':=by
 have hL:=h.len
 have H:=zH h
 have HK:=zH hk
 cases hm:z0A k (zG k) l with
 | false =>
   have hs:=z9T hm
   have ha:z4k k l=[]:=by simp[z4k,hm]
   have h1:=zer k a cap l w hk h
   rw[hs.1,hs.2]at h1
   rw[ha,hs.2]
   have H1:=zH h1
   clear h hk hm hs ha h1
   go_enter Tryz.func192,Tryz.ntmps192
   go_wp2_with fail
   refine H1.out.mono ?_
   rintro e w1 ⟨rfl,hnb⟩
   go_wp2
   go_ret2
   exact⟨⟨none,0,rfl,z0b.nil _,by simp[Value.ownBlock]⟩,hnb⟩
 | true =>
   obtain⟨hz,_,hc⟩:=z2L hm
   obtain⟨n1,n2,n3,_,n5⟩:=z1t k hz
   have hs:=z4D hm
   have ha:z4k k l=l++zc (z3t (szK k) (z04 k) (zG k) l) (szK k):=by simp[z4k,hm]
   have h1:=zer k a cap l w hk h
   rw[hs.1,hs.2]at h1
   rw[ha,hs.2]
   have hS:=z3D n3 l _ n5
   generalize z3t (szK k) (z04 k) (zG k) l=S at *
   have H1:=zH h1
   have HS:=zH hS
   have hl:=z1f hc
   have hbl:=zb S (szK k)
   clear h hk hm hs ha h1 hS hc n3 n5
   go_enter Tryz.func192,Tryz.ntmps192
   go_wp2_with fail
   refine H1.out.mono ?_
   rintro e w1 ⟨rfl,hnb⟩
   go_wp2_with fail
   refine(z5W k _ (HK.out.below hnb)).mono ?_
   rintro e w2 ⟨rfl,hnb2⟩
   go_wp2_with fail
   refine(zfd S (szK k) _ (by omega) HS.out).mono ?_
   rintro e w3 ⟨⟨a3,c3,rfl,hb3⟩,hnb3⟩
   have HB:=zH hb3
   have n123:=(hnb.tr hnb2).tr hnb3
   have N123:=zH n123
   clear hb3 hnb hnb2 hnb3
   go_wp2_with fail
   have hcat:=z23 w3.heap.size 0 a a3 cap c3 l (zc S (szK k)) (w3.alloc (.cells #[.slice a l.length cap,.slice a3 (szK k) c3] 35)) (by simp) (by simp[hbl]) (H.out.below (n123.al _)) (HB.out.below (Nb.rfl.al _)) (by omega) hn (by omega) (by omega)
   refine hcat.mono ?_
   rintro e w4 ⟨⟨a',c',rfl,hf⟩,hn4⟩
   have hfin:(zh w w4 (.slice a' (l++zc S (szK k)).length c') (l++zc S (szK k))):=⟨hf.1,fun g hg=>Nat.le_trans (n123.al _).size (hf.2 g hg)⟩
   have hnf:=(n123.al _).tr hn4
   have HF:=zH hfin
   clear hcat hf hfin hn4 n123
   go_wp2
   go_ret2
   exact⟨⟨a',c',by rw[List.length_append,hbl];rfl,HF.out⟩,hnf⟩
theorem z4b (k:Int) (a:Option Addr) (cap:Nat) (l:List Nat) (w:World) (h:Bs w a cap l) (hn:a=none->cap=0) :
    Calls Tryz.prog 85 #[.int .i64 k,.slice a l.length cap] w fun e w'=>z8C (z4k k l) (ze2 k l) e w'/\Nb w w':=by
 have hL:=h.len
 have H:=zH h
 cases hm:z0A k (zG k) l with
 | false =>
   have hs:=z9T hm
   have ha:z4k k l=[]:=by simp[z4k,hm]
   have h1:=z9A k a cap l w h
   rw[hs.1,hs.2]at h1
   rw[ha,hs.2]
   have H1:=zH h1
   clear h hm hs ha h1
   go_enter Tryz.func85,Tryz.ntmps85
   go_wp2_with fail
   refine H1.out.mono ?_
   rintro e w1 ⟨rfl,hnb⟩
   go_wp2
   go_ret2
   exact⟨⟨none,0,rfl,Bs.nil _⟩,hnb⟩
 | true =>
   obtain⟨hz,_,hc⟩:=z2L hm
   obtain⟨n1,n2,n3,_,n5⟩:=z1t k hz
   have hs:=z4D hm
   have ha:z4k k l=l++zc (z3t (szK k) (z04 k) (zG k) l) (szK k):=by simp[z4k,hm]
   have h1:=z9A k a cap l w h
   rw[hs.1,hs.2]at h1
   rw[ha,hs.2]
   have hS:=z3D n3 l _ n5
   generalize z3t (szK k) (z04 k) (zG k) l=S at *
   have h64:(2:Nat)^szK k<=4294967296:=Nat.pow_le_pow_right (by omega) n2
   have H1:=zH h1
   have hS64:S < 18446744073709551616:=by omega
   have hl:=z1f hc
   have hbl:=zb S (szK k)
   clear h hm hs ha h1 hS hc n3 n5 h64
   go_enter Tryz.func85,Tryz.ntmps85
   go_wp2_with fail
   refine H1.out.mono ?_
   rintro e w1 ⟨rfl,hnb⟩
   go_wp2_with fail
   refine(z51 k _).mono ?_
   rintro e w2 ⟨rfl,rfl⟩
   go_wp2_with (at_builtin;refine zd _ rfl (.tmp 26) (.tmp 27) rfl _ [] rfl (z0b.fresh0 _) a cap l l.length rfl rfl (H.out.below (hnb.al _)) (by intro h;subst h;exact⟨by rw[H.out.none_len];rfl,hn rfl⟩) (by simp;omega) ?_)
   intro v1 w2 ho1 hk1 hf1
   have fr1:∀g,v1.ownBlock=some g->w.heap.size<=g:=fun g hg=>by
    rcases hf1 g hg with h | h
    ·simp[Value.ownBlock]at h
     have:=hnb.size
     omega
    ·have:=hnb.size
     omega
   have hnb2:Nb w w2:=(hnb.al _).trans (hk1.toBelow (Nat.le_trans hnb.size (by simp)) (by intro g hg;simp[Value.ownBlock]at hg;have:=hnb.size;omega))
   have HO:=zH ho1
   clear ho1 hk1 hf1 hnb
   go_wp2_with fail
   refine(zZ S (szK k) _ hS64 (by omega)).mono ?_
   rintro e w3 ⟨⟨a3,c3,rfl,hb3⟩,hnb3⟩
   have ho2:=HO.out.keep (F:=fun _=>False) (Kp.ofNb hnb3) (by simp)
   have hsz3:a3=none->szK k=0/\c3=0:=by
    rintro rfl
    exact absurd (by rw[<- hbl,hb3.none_len];rfl:szK k=0) hz
   go_wp2_with (at_builtin;refine zd _ rfl (.tmp 28) (.tmp 31) rfl _ l rfl ho2 a3 c3 (zc S (szK k)) (szK k) hbl.symm rfl hb3 hsz3 (by omega) ?_)
   intro v2 w4 ho4 hk4 hf4
   obtain⟨a4,c4,rfl,hb4,_⟩:=ho4.bs
   have hnb4:Nb w w4:=(hnb2.tr hnb3).trans (hk4.toBelow (hnb2.tr hnb3).size fr1)
   have HB:=zH hb4
   clear ho4 hk4 hf4 hb4 ho2 hnb2 hnb3 hb3
   go_wp2
   go_ret2
   exact⟨⟨a4,c4,rfl,HB.out⟩,hnb4⟩
theorem half_pow{n:Nat}(hn:1<=n):2^n=2^(n - 1)*2:=by rw[<- Nat.pow_succ];congr 1;omega
theorem twice_mod{n s:Nat}(hn:1<=n):s*2%2^n=(s%2^(n - 1))*2:=by
 rw[half_pow hn,Nat.mul_mod_mul_right]
theorem runC_zero{n p:Nat}(hn:1<=n)(hp:p%2=1)(hpl:p < 2^n):∀(u:List Nat) (s:Nat),u.length<=n->(∀x∈u,x<=1)->s < 2^n->(z3t n p s u=0↔s=zB u*2^(n - u.length)):=by
 intro u
 induction u with
 | nil =>
   intro s _ _ _
   simp[runC_nil,zB]
 | cons b u ih =>
   intro s hl hb hs
   rw[List.length_cons]at hl
   have hb1:b<=1:=hb b (by simp)
   have hbu:∀x∈u,x<=1:=fun x hx=>hb x (by simp[hx])
   have hpow:2^(n - u.length)=2^(n - (u.length+1))*2:=by
    rw[<- Nat.pow_succ];congr 1;omega
   have hnum:zB (b::u)=b*2^u.length+zB u:=by
    have key:∀(u:List Nat) (c:Nat),u.foldl (fun n b=>n*2+b) c=c*2^u.length+u.foldl (fun n b=>n*2+b) 0:=by
     intro u
     induction u with
     | nil=>intro c;simp
     | cons x u ih =>
       intro c
       rw[List.foldl_cons,List.foldl_cons,ih (c*2+x),ih (0*2+x),List.length_cons,Nat.pow_succ]
       rw[Nat.zero_mul,Nat.zero_add,Nat.add_mul,Nat.add_assoc,Nat.mul_assoc,Nat.mul_comm 2]
    have:=key u (0*2+b)
    simpa [zB]using this
   have hup:=z2I u hbu
   have hprod:2^u.length*2^(n - (u.length+1))=2^(n - 1):=by rw[<- Nat.pow_add];congr 1;omega
   have hdm:s=s / 2^(n - 1)*2^(n - 1)+s%2^(n - 1):=by rw[Nat.mul_comm];exact(Nat.div_add_mod s _).symm
   rw[zd6,List.length_cons]
   have hnumlt:zB u*2^(n - (u.length+1)) < 2^(n - 1):=by
    rw[<- hprod]
    exact Nat.mul_lt_mul_of_pos_right hup (Nat.two_pow_pos _)
   constructor
   ·intro h
    by_cases ht:s / 2^(n - 1)=b
    ·have hst:z2k n p s b=s%2^(n - 1)*2:=by unfold z2k;rw[if_pos ht,twice_mod hn]
     rw[hst]at h
     have hlt:s%2^(n - 1)*2 < 2^n:=by
      rw[half_pow hn]
      exact Nat.mul_lt_mul_of_pos_right (Nat.mod_lt _ (Nat.two_pow_pos _)) (by decide)
     have h1:=(ih _ (by omega) hbu hlt).1 h
     rw[hpow,<- Nat.mul_assoc]at h1
     have h2:s%2^(n - 1)=zB u*2^(n - (u.length+1)):=Nat.eq_of_mul_eq_mul_right (by decide) h1
     rw[hdm,ht,h2,hnum,Nat.add_mul,Nat.mul_assoc,hprod]
    ·exfalso
     have hst:z2k n p s b=(s%2^(n - 1)*2) ^^^ p:=by unfold z2k;rw[if_neg ht,twice_mod hn]
     have h1:=(ih _ (by omega) hbu (z5V hpl)).1 h
     rw[hst,hpow,<- Nat.mul_assoc]at h1
     have e:=Nat.xor_mod_two_pow (a:=s%2^(n - 1)*2) (b:=p) (n:=1)
     rw[Nat.pow_one,h1,Nat.mul_mod_left,Nat.mul_mod_left,hp]at e
     revert e
     decide
   ·intro h
    have hdiv:s / 2^(n - 1)=b:=by
     rw[h,hnum,Nat.add_mul,Nat.mul_assoc,hprod,Nat.mul_comm b,Nat.mul_add_div (Nat.two_pow_pos _),Nat.div_eq_of_lt hnumlt,Nat.add_zero]
    have hmod:s%2^(n - 1)=zB u*2^(n - (u.length+1)):=by
     rw[h,hnum,Nat.add_mul,Nat.mul_assoc,hprod,Nat.mul_comm b,Nat.mul_add_mod,Nat.mod_eq_of_lt hnumlt]
    have hst:z2k n p s b=s%2^(n - 1)*2:=by unfold z2k;rw[if_pos hdiv,twice_mod hn]
    rw[hst,hmod]
    have hlt:zB u*2^(n - (u.length+1))*2 < 2^n:=by
     rw[half_pow hn]
     exact Nat.mul_lt_mul_of_pos_right hnumlt (by decide)
    rw[ih _ (by omega) hbu hlt,hpow,Nat.mul_assoc]
theorem stepC_zero(n p:Nat):z2k n p 0 0=0:=by simp[z2k]
theorem runC_zeros(n p:Nat)(k:Nat):z3t n p 0 (List.replicate k 0)=0:=by
 induction k with
 | zero=>rfl
 | succ k ih=>rw[List.replicate_succ,zd6,stepC_zero];exact ih
theorem runC_back{n p:Nat}(hn:1<=n)(hp:p%2=1)(hpl:p < 2^n):∀(k s:Nat),s < 2^n->z3t n p s (List.replicate k 0)=0->s=0:=by
 intro k
 induction k with
 | zero=>intro s _ h;exact h
 | succ k ih =>
   intro s hs h
   rw[List.replicate_succ,zd6]at h
   have h1:=ih _ (z5V hpl) h
   have h2:=(runC_zero hn hp hpl [0] s (by simpa using hn) (by simp) hs).1 (by rw[zd6,h1,runC_nil])
   simpa [zB]using h2
theorem top_xor{n s t:Nat}:(s ^^^ t) / 2^(n - 1)=s / 2^(n - 1) ^^^ t / 2^(n - 1):=by
 rw[<- Nat.shiftRight_eq_div_pow,<- Nat.shiftRight_eq_div_pow,<- Nat.shiftRight_eq_div_pow,Nat.shiftRight_xor_distrib]
theorem twice_xor{n s t:Nat}:(s ^^^ t)*2%2^n=s*2%2^n ^^^ t*2%2^n:=by
 rw[<- Nat.xor_mod_two_pow]
 congr 1
 have:∀x:Nat,x*2=x <<< 1:=fun x=>by rw[Nat.shiftLeft_eq]
 rw[this,this,this,Nat.shiftLeft_xor_distrib]
theorem stepC_xor{n p s t b c:Nat}(hn:1<=n)(hs:s < 2^n)(ht:t < 2^n)(hb:b<=1)(hc:c<=1):z2k n p (s ^^^ t) (b ^^^ c)=z2k n p s b ^^^ z2k n p t c:=by
 have h1:=zf9 hn hs
 have h2:=zf9 hn ht
 unfold z2k
 rw[top_xor,twice_xor]
 generalize s / 2^(n - 1)=x at *
 generalize t / 2^(n - 1)=y at *
 generalize s*2%2^n=u
 generalize t*2%2^n=v
 have cx:∀a b c:Nat,a ^^^ b ^^^ c=a ^^^ c ^^^ b:=fun a b c=>by rw[Nat.xor_assoc,Nat.xor_comm b,Nat.xor_assoc]
 have cy:∀a b c:Nat,a ^^^ b ^^^ (c ^^^ b)=a ^^^ c:=fun a b c=>by rw[Nat.xor_assoc,Nat.xor_comm c,<- Nat.xor_assoc b,Nat.xor_self,Nat.zero_xor]
 rcases(by omega:x=0\/x=1)with rfl | rfl<;>rcases(by omega:y=0\/y=1)with rfl | rfl<;>rcases(by omega:b=0\/b=1)with rfl | rfl<;>rcases(by omega:c=0\/c=1)with rfl | rfl<;>simp[Nat.xor_assoc,cx,cy]<;>rw[Nat.xor_comm p v]
def xorL(x y:List Nat):List Nat:=List.zipWith (· ^^^ ·) x y
theorem xorL_length{x y:List Nat}(h:x.length=y.length):(xorL x y).length=x.length:=by simp[xorL,h]
theorem runC_xor {n p:Nat} (hn:1<=n) (hpl:p < 2^n):∀(x y:List Nat) (s t:Nat),x.length=y.length->(∀b∈x,b<=1)->(∀b∈y,b<=1)->s < 2^n->t < 2^n ->
    z3t n p (s ^^^ t) (xorL x y)=z3t n p s x ^^^ z3t n p t y:=by
 intro x
 induction x with
 | nil =>
   intro y s t hl _ _ _ _
   cases y with
   | nil=>rfl
   | cons c y=>simp at hl
 | cons b x ih =>
   intro y s t hl hx hy hs ht
   cases y with
   | nil=>simp at hl
   | cons c y =>
     have e:xorL (b::x) (c::y)=(b ^^^ c)::xorL x y:=rfl
     rw[e,zd6,zd6,zd6,stepC_xor hn hs ht (hx b (by simp)) (hy c (by simp))]
     exact ih y _ _ (by simpa using hl) (fun z hz=>hx z (by simp[hz])) (fun z hz=>hy z (by simp[hz])) (z5V hpl) (z5V hpl)
theorem xorL_getD(x y:List Nat)(h:x.length=y.length)(i:Nat):(xorL x y).getD i 0=x.getD i 0 ^^^ y.getD i 0:=by
 unfold xorL
 simp only[List.getD,List.getElem?_zipWith]
 by_cases hi:i < x.length
 ·have:i < y.length:=by omega
  simp[hi,this]
 ·simp[List.getElem?_eq_none (by omega:x.length<=i),List.getElem?_eq_none (by omega:y.length<=i)]
theorem getD_ext{x y:List Nat}(h:x.length=y.length)(hi:∀i,x.getD i 0=y.getD i 0):x=y:=by
 apply List.ext_getElem?
 intro i
 by_cases hl:i < x.length
 ·have:=hi i
  simp only[List.getD,List.getElem?_eq_getElem hl,List.getElem?_eq_getElem (h ▸ hl:i < y.length),Option.getD_some]at this
  rw[List.getElem?_eq_getElem hl,List.getElem?_eq_getElem (h ▸ hl:i < y.length),this]
 ·rw[List.getElem?_eq_none (by omega),List.getElem?_eq_none (by omega)]
theorem burst_zero{n p:Nat}(hn:1<=n)(hp:p%2=1)(hpl:p < 2^n)(z:List Nat)(hz:∀x∈z,x<=1)(k:Nat)(hout:∀i,i < k\/k+n<=i->z.getD i 0=0)(h:z3t n p 0 z=0):∀i,z.getD i 0=0:=by
 have hrep:∀l:List Nat,(∀i,l.getD i 0=0)->l=List.replicate l.length 0:=fun l hl =>
  getD_ext (by simp) (fun i=>by rw[hl i];simp[List.getD,List.getElem?_replicate];split<;>rfl)
 have h1:z.take k=List.replicate (z.take k).length 0:=hrep _ fun i=>by
  by_cases hi:i < k
  ·have:=hout i (.inl hi)
   simpa [List.getD,List.getElem?_take,hi]using this
  ·simp[List.getD,List.getElem?_take,hi]
 have h3:z.drop (k+n)=List.replicate (z.drop (k+n)).length 0:=hrep _ fun i=>by
  have:=hout (k+n+i) (.inr (by omega))
  simpa [List.getD,List.getElem?_drop]using this
 have hsplit:z=z.take k++((z.drop k).take n++z.drop (k+n)):=by
  rw[<- List.drop_drop,List.take_append_drop,List.take_append_drop]
 rw[hsplit,runC_append,runC_append,h1,runC_zeros,h3]at h
 have hu:∀x∈(z.drop k).take n,x<=1:=fun x hx=>hz x (List.mem_of_mem_drop (List.mem_of_mem_take hx))
 have h4:=runC_back hn hp hpl _ _ (z3D hpl _ _ (Nat.two_pow_pos n)) h
 have hlen:((z.drop k).take n).length<=n:=by rw[List.length_take];omega
 have h5:=(runC_zero hn hp hpl _ 0 hlen hu (Nat.two_pow_pos n)).1 h4
 have h6:zB ((z.drop k).take n)=0:=by
  rcases Nat.mul_eq_zero.1 h5.symm with h | h
  ·exact h
  ·have:=Nat.two_pow_pos (n - ((z.drop k).take n).length);omega
 have h7:=z5z _ hu
 intro i
 by_cases hi:i < k\/k+n<=i
 ·exact hout i hi
 ·have e:z.getD i 0=((z.drop k).take n).getD (i - k) 0:=by
   simp only[List.getD,List.getElem?_take,List.getElem?_drop,if_pos (by omega:i - k < n)]
   rw[show k+(i - k)=i by omega]
  rw[e,<- h7,h6]
  simp only[zc,List.getD,List.getElem?_map,Nat.zero_div,Nat.zero_mod]
  cases (List.range ((z.drop k).take n).length)[i - k]? <;> rfl
theorem fitsB_iff(k:Int)(l:List Nat):z1J k l=true↔szK k≠0/\szK k<=l.length/\chk l=true/\z3t (szK k) (z04 k) (zG k) l=0:=by
 simp only[z1J,Bool.and_eq_true,decide_eq_true_eq]
 constructor
 ·rintro⟨⟨⟨hz,hl⟩,hc⟩,h⟩
  obtain⟨n1,n2,n3,n4,n5⟩:=z1t k hz
  refine⟨hz,hl,hc,?_⟩
  have hb:∀x∈l.drop (l.length - szK k),x<=1:=fun x hx=>z0D hc x (List.mem_of_mem_drop hx)
  have hlen:(l.drop (l.length - szK k)).length=szK k:=by rw[List.length_drop];omega
  rw[<- List.take_append_drop (l.length - szK k) l,runC_append,<- h]
  refine(runC_zero (by omega) n4 n3 _ _ (by omega) hb ?_).2 (by rw[hlen];simp)
  have:=z2I _ hb
  rwa[hlen]at this
 ·rintro⟨hz,hl,hc,h⟩
  obtain⟨n1,n2,n3,n4,n5⟩:=z1t k hz
  refine⟨⟨⟨hz,hl⟩,hc⟩,?_⟩
  have hb:∀x∈l.drop (l.length - szK k),x<=1:=fun x hx=>z0D hc x (List.mem_of_mem_drop hx)
  have hlen:(l.drop (l.length - szK k)).length=szK k:=by rw[List.length_drop];omega
  rw[<- List.take_append_drop (l.length - szK k) l,runC_append]at h
  have:=(runC_zero (by omega) n4 n3 _ _ (by omega) hb (z3D n3 _ _ n5)).1 h
  rw[hlen]at this
  simpa using this.symm
theorem fits_burst(k:Int)(x y:List Nat)(hx:z1J k x=true)(hl:y.length=x.length)(hb:∀b∈y,b<=1)(j:Nat)(hout:∀i,i < j\/j+szK k<=i->y.getD i 0=x.getD i 0):z1J k y=decide (y=x):=by
 by_cases hyx:y=x
 ·rw[hyx,hx];simp
 ·rw[decide_eq_false hyx]
  cases hf:z1J k y with
  | false=>rfl
  | true =>
    exfalso
    obtain⟨hz,_,hc,h0⟩:=(fitsB_iff k x).1 hx
    obtain⟨_,_,_,h1⟩:=(fitsB_iff k y).1 hf
    obtain⟨n1,n2,n3,n4,n5⟩:=z1t k hz
    have hlin:=runC_xor (p:=z04 k) (by omega:1<=szK k) n3 y x (zG k) (zG k) hl hb (z0D hc) n5 n5
    rw[Nat.xor_self,h0,h1,Nat.xor_self]at hlin
    have hz2:∀b∈xorL y x,b<=1:=by
     intro b hbm
     obtain⟨i,hi,rfl⟩:=List.getElem_of_mem hbm
     rw[xorL_length hl]at hi
     have e1:y[i]<=1:=hb _ (List.getElem_mem _)
     have e2:x[i]'(by omega)<=1:=z0D hc _ (List.getElem_mem _)
     simp only[xorL,List.getElem_zipWith]
     have:y[i] ^^^ x[i]'(by omega) < 2^1:=Nat.xor_lt_two_pow (by omega) (by omega)
     omega
    have hall:=burst_zero (by omega) n4 n3 (xorL y x) hz2 j (fun i hi=>by rw[xorL_getD _ _ hl,hout i hi,Nat.xor_self]) hlin
    refine hyx (getD_ext hl fun i => ?_)
    have:=hall i
    rw[xorL_getD _ _ hl]at this
    have h2:=congrArg (· ^^^ x.getD i 0) this
    simpa [Nat.xor_assoc]using h2
theorem ze9(k:Int)(l:List Nat)(hm:z0A k (zG k) l=true)(hl:l.length<=60000):z1J k (z4k k l)=true/\(z4k k l).take l.length=l/\(z4k k l).length=l.length+szK k/\∀b∈z4k k l,b<=1:=by
 obtain⟨hz,_,hc⟩:=z2L hm
 obtain⟨n1,n2,n3,n4,n5⟩:=z1t k hz
 have ha:z4k k l=l++zc (z3t (szK k) (z04 k) (zG k) l) (szK k):=by simp[z4k,hm]
 have hS:=z3D n3 l _ n5
 have hlen:(z4k k l).length=l.length+szK k:=by rw[ha,List.length_append,zb]
 have hbits:∀b∈z4k k l,b<=1:=by
  intro b hb
  rw[ha]at hb
  rcases List.mem_append.1 hb with h | h
  ·exact z0D hc b h
  ·have:=z6y _ _ b h;omega
 refine⟨?_,by rw[ha];simp,hlen,hbits⟩
 have hc2:chk (z4k k l)=true:=by
  simp only[chk,Bool.and_eq_true,decide_eq_true_eq,List.all_eq_true]
  exact⟨by omega,hbits⟩
 have e:(z4k k l).length - szK k=l.length:=by omega
 simp only[z1J,hc2,e,Bool.and_eq_true,decide_eq_true_eq]
 refine⟨⟨⟨hz,by omega⟩,trivial⟩,?_⟩
 rw[ha]
 simp[z0p _ _ hS]
structure Turned(X Y:List Nat)(B k j:Nat):Prop where
 len:Y.length=X.length
 bit:∀b∈Y,b<=1
 at_:∀i,Y.getD i 0=if k<=i/\i < k+j then X.getD i 0 ^^^ (B / 2^(i - k)%2)else X.getD i 0
theorem xor_le{a b:Nat}(h:a<=1)(k:b<=1):a ^^^ b<=1:=by
 have:a ^^^ b < 2^1:=Nat.xor_lt_two_pow (by omega) (by omega)
 omega
theorem getD_le{Y:List Nat}(h:∀b∈Y,b<=1)(i:Nat):Y.getD i 0<=1:=by
 by_cases hi:i < Y.length
 ·have:Y.getD i 0∈Y:=by simp[List.getD,hi]
  exact h _ this
 ·simp[List.getD,List.getElem?_eq_none (by omega:Y.length<=i)]
theorem Turned.zero{X:List Nat}(h:∀b∈X,b<=1)(B k:Nat):Turned X X B k 0:=⟨rfl,h,fun i=>by rw[if_neg (by omega)]⟩
theorem Turned.step{X Y:List Nat}{B k j:Nat}(h:Turned X Y B k j)(hk:k+j < X.length):Turned X (Y.set (k+j) (Y.getD (k+j) 0 ^^^ (B / 2^j%2))) B k (j+1):=by
 have hle:Y.getD (k+j) 0 ^^^ (B / 2^j%2)<=1:=xor_le (getD_le h.bit _) (by omega)
 refine⟨by rw[List.length_set];exact h.len,set_bits h.bit _ _ hle,fun i => ?_⟩
 rw[set_getD _ _ _ _ (by rw[h.len];exact hk)]
 by_cases hi:i=k+j
 ·subst hi
  rw[if_pos rfl,if_pos (by omega),h.at_,if_neg (by omega),Nat.add_sub_cancel_left]
 ·rw[if_neg hi,h.at_]
  by_cases hc:k<=i/\i < k+j
  ·rw[if_pos hc,if_pos (by omega)]
  ·rw[if_neg hc,if_neg (by omega)]
theorem bits_none{B n:Nat}(hB:B < 2^n)(h:∀i,i < n->B / 2^i%2=0):B=0:=by
 apply Nat.eq_of_testBit_eq
 intro i
 rw[Nat.zero_testBit]
 by_cases hi:i < n
 ·rw[Nat.testBit_eq_decide_div_mod_eq,h i hi];rfl
 ·exact Nat.testBit_lt_two_pow (Nat.lt_of_lt_of_le hB (Nat.pow_le_pow_right (by omega) (by omega)))
theorem Turned.fits{K:Int}{X Y:List Nat}{B k:Nat}(h:Turned X Y B k (szK K))(hx:z1J K X=true)(hB:B < 2^szK K):z1J K Y=decide (B=0):=by
 rw[fits_burst K X Y hx h.len h.bit k (fun i hi=>by rw[h.at_,if_neg (by omega)])]
 have:Y=X↔B=0:=by
  constructor
  ·intro he
   refine bits_none hB fun i hi => ?_
   have h1:=h.at_ (k+i)
   rw[if_pos (by omega),Nat.add_sub_cancel_left,he]at h1
   have h2:=congrArg (X.getD (k+i) 0 ^^^ ·) h1
   simp only[Nat.xor_self,<- Nat.xor_assoc,Nat.zero_xor]at h2
   exact h2.symm
  ·rintro rfl
   refine getD_ext h.len fun i => ?_
   rw[h.at_]
   split<;>simp
 by_cases hz:B=0
 ·simp[this.2 hz,hz]
 ·have:¬Y=X:=fun e=>hz (this.1 e)
  simp[this,hz]
structure Differ(A B Y:List Nat)(N j:Nat):Prop where
 len:Y.length=N
 at_:∀i,Y.getD i 0=if i < j then A.getD i 0 ^^^ B.getD i 0 else 0
theorem Differ.zero(A B:List Nat)(N:Nat):Differ A B (List.replicate N 0) N 0:=⟨by simp,fun i=>by
 simp only[Nat.not_lt_zero,if_false,List.getD,List.getElem?_replicate]
 split<;>rfl⟩
theorem Differ.step{A B Y:List Nat}{N j:Nat}(h:Differ A B Y N j)(hj:j < N):Differ A B (Y.set j (A.getD j 0 ^^^ B.getD j 0)) N (j+1):=by
 refine⟨by rw[List.length_set];exact h.len,fun i => ?_⟩
 rw[set_getD _ _ _ _ (by rw[h.len];exact hj),h.at_]
 by_cases hi:i=j
 ·subst hi;simp
 ·rw[if_neg hi]
  by_cases hc:i < j
  ·rw[if_pos hc,if_pos (by omega)]
  ·rw[if_neg hc,if_neg (by omega)]
theorem Differ.full{A B Y:List Nat}{N:Nat}(h:Differ A B Y N N)(hA:N<=A.length)(hB:N<=B.length):Y=xorL (A.take N) (B.take N):=by
 have h1:(A.take N).length=N:=by rw[List.length_take];omega
 have h2:(B.take N).length=N:=by rw[List.length_take];omega
 refine getD_ext (by rw[xorL_length (by omega),h1];exact h.len) fun i => ?_
 rw[xorL_getD _ _ (by omega),h.at_]
 by_cases hi:i < N
 ·simp[List.getD,List.getElem?_take,hi]
 ·simp[List.getD,List.getElem?_take,hi]
theorem zfo : Tryz.prog.globalNamed "omnibus/crc.kinds" = some 1 := by kernel_rfl
theorem zhe:(Tryz.prog.globals[1]?).map (·.type)=some 302:=by kernel_rfl
theorem z7R:Tryz.prog.cellsOf 288=3:=by kernel_rfl
theorem zf0:Tryz.prog.cellsOf 3=1:=by kernel_rfl
theorem zec:Tryz.prog.cellsOf 142=1:=by kernel_rfl
theorem zbD {H:Type} {enc:TypeId × Value->H} {w:World} {base:Nat} {sp:Nat->Bool} {held:Bool} {fuel:Nat} {cs:List Value} {a b c:Int} {p:List MemPlace}
    (h:DataW.trod enc Tryz.prog w base sp held fuel 288 cs=some (.agg [.lit (.int .i64 a),.lit (.int .u64 b),.lit (.int .u64 c)],p)):cs=[.int .i64 a,.int .u64 b,.int .u64 c]:=by
 obtain⟨y0,y1,y2,n,hx,hl,h0,h1,h2⟩:=Go.Deep.trod_struct3 Tryz.underlying288 h
 obtain⟨n0,c0,e0,_⟩:=DataW.trod_int Tryz.underlying3 h0
 obtain⟨n1,c1,e1,_⟩:=DataW.trod_int Tryz.underlying142 h1
 obtain⟨n2,c2,e2,_⟩:=DataW.trod_int Tryz.underlying142 h2
 simp only[zf0,zec]at c0 c1 c2
 subst e0 e1 e2
 simp only[Prod.mk.injEq,DataW.agg.injEq,List.cons.injEq,DataW.lit.injEq,Lit.int.injEq,and_true,true_and]at hx
 obtain⟨⟨rfl,rfl,rfl⟩,_⟩:=hx
 rw[z7R]at hl
 match cs,hl with
 | [x,y,z],_ =>
   simp at c0 c1 c2
   rw[c0,c1,c2]
theorem zeg {W : World} (h : laidMetH Tryz.prog [("omnibus/crc.kinds", Rows.laid_omnibus_crc_kinds)] W) : z1n W := by
 rw[MakeChecks.laidMetH_plain _ _ _ (by kernel_rfl)]at h
 obtain⟨ps,⟨g0,t0,cs0,f0,p0,q0,hg0,ht0,hv0,hd0,_,_⟩,_,_⟩:=h
 obtain rfl:=Option.some.inj (zfo.symm.trans hg0)
 obtain rfl:=Option.some.inj (zhe.symm.trans ht0)
 obtain⟨xs,m1,rfl,hx1,hlen,hn6,hel⟩:=DataW.trod_array Tryz.underlying302 hd0
 rw[z7R]at hel
 simp only[Prod.mk.injEq]at hx1
 obtain⟨hx1,_⟩:=hx1
 have hrow:∀i a b c p,i < 6->xs[i]? = some (.agg [.lit (.int .i64 a),.lit (.int .u64 b),.lit (.int .u64 c)],p)->cs0.toList[i*3]? = some (.int .i64 a)/\cs0.toList[i*3+1]? = some (.int .u64 b)/\cs0.toList[i*3+2]? = some (.int .u64 c):=by
  intro i a b c p hi hx
  have h1:=zbD ((hel i hi).trans hx)
  refine⟨?_,?_,?_⟩
  ·have:=congrArg (·[0]?) h1;simpa [List.getElem?_take,List.getElem?_drop]using this
  ·have:=congrArg (·[1]?) h1;simpa [List.getElem?_take,List.getElem?_drop]using this
  ·have:=congrArg (·[2]?) h1;simpa [List.getElem?_take,List.getElem?_drop]using this
 intro i v hv
 rw[World.var?_cell zfo hv0 i]
 rw[<- Array.getElem?_toList]
 match xs,hn6,hx1,hrow with
 | [(d0,p0),(d1,p1),(d2,p2),(d3,p3),(d4,p4),(d5,p5)],_,hx1,hrow =>
   simp only[Rows.laid_omnibus_crc_kinds,List.map_cons,List.map_nil,DataW.agg.injEq,List.cons.injEq,and_true]at hx1
   obtain⟨rfl,rfl,rfl,rfl,rfl,rfl⟩:=hx1
   have r0:=hrow 0 _ _ _ _ (by decide) rfl
   have r1:=hrow 1 _ _ _ _ (by decide) rfl
   have r2:=hrow 2 _ _ _ _ (by decide) rfl
   have r3:=hrow 3 _ _ _ _ (by decide) rfl
   have r4:=hrow 4 _ _ _ _ (by decide) rfl
   have r5:=hrow 5 _ _ _ _ (by decide) rfl
   have hi:i < 18:=(List.getElem?_eq_some_iff.1 hv).1
   rcases(by omega:i=0\/i=1\/i=2\/i=3\/i=4\/i=5\/i=6\/i=7\/i=8\/i=9\/i=10\/i=11\/i=12\/i=13\/i=14\/i=15\/i=16\/i=17)with rfl | rfl | rfl | rfl | rfl | rfl | rfl | rfl | rfl | rfl | rfl | rfl | rfl | rfl | rfl | rfl | rfl | rfl
   all_goals
    simp only[z9j,List.getElem?_cons_succ,List.getElem?_cons_zero,Option.some.injEq]at hv
    subst hv
    first
    | exact r0.1 | exact r0.2.1 | exact r0.2.2 | exact r1.1 | exact r1.2.1 | exact r1.2.2 | exact r2.1 | exact r2.2.1 | exact r2.2.2
    | exact r3.1 | exact r3.2.1 | exact r3.2.2 | exact r4.1 | exact r4.2.1 | exact r4.2.2 | exact r5.1 | exact r5.2.1 | exact r5.2.2
end Go.Proofs.YtkjjfnmeogpdbaaGreatDoor
