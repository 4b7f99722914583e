/- What a check sum is, as a number, and more. Conditions: as each says. -/
import Derived.Test.YtplbmlpdefpplaaGreatDoorGb
import Derived.StillTailTactics
import Derived.Lib.AppendZeros
import Derived.Test.YtplbmlpdefpplaaGreatDoorRows
import Derived.LaidMore
set_option maxHeartbeats 1600000
set_option maxRecDepth 100000
namespace Go.Proofs.YtplbmlpdefpplaaGreatDoor
set_option linter.unusedVariables false
set_option linter.unusedSimpArgs false
open Go.RowKit
variable {k:Int} {l:List Nat} {n s:Nat}
def z9p(k:Int):Nat × Nat × Nat :=
 if k=1 then(15,17817,0)else if k=2 then(17,92251,65536)else if k=3 then(21,1058969,1048576)else if k=4 then(13,6631,1)else if k=5 then(32,4104977171,1) else(0,0,0)
def szK(k:Int):Nat:=(z9p k).1
def z08(k:Int):Nat:=(z9p k).2.1
def zD(k:Int):Nat:=(z9p k).2.2
theorem z1U(k:Int):(k=1\/k=2\/k=3\/k=4\/k=5)\/(z9p k=(0,0,0)/\k≠1/\k≠2/\k≠3/\k≠4/\k≠5):=by
 unfold z9p
 by_cases h1:k=1;· exact .inl (.inl h1)
 by_cases h2:k=2;· exact .inl (.inr (.inl h2))
 by_cases h3:k=3;· exact .inl (.inr (.inr (.inl h3)))
 by_cases h4:k=4;· exact .inl (.inr (.inr (.inr (.inl h4))))
 by_cases h5:k=5;· exact .inl (.inr (.inr (.inr (.inr h5))))
 exact .inr ⟨by simp[h1,h2,h3,h4,h5],h1,h2,h3,h4,h5⟩
structure zkh(n p s:Nat):Prop where
 pos:13<=n
 le:n<=32
 poly:p < 2^n
 odd:p%2=1
 start:s < 2^n
theorem z1C(k:Int)(h:szK k≠0):zkh (szK k) (z08 k) (zD k):=by
 rcases z1U k with (rfl | rfl | rfl | rfl | rfl) | ⟨h1,_⟩
 ·exact⟨by decide,by decide,by decide,by decide,by decide⟩
 ·exact⟨by decide,by decide,by decide,by decide,by decide⟩
 ·exact⟨by decide,by decide,by decide,by decide,by decide⟩
 ·exact⟨by decide,by decide,by decide,by decide,by decide⟩
 ·exact⟨by decide,by decide,by decide,by decide,by decide⟩
 ·simp[szK,h1]at h
def z2x(n p s b:Nat):Nat:=if s / 2^(n - 1)=b then s*2%2^n else(s*2%2^n) ^^^ p
def z45(n p s:Nat)(l:List Nat):Nat:=l.foldl (z2x n p) s
theorem z5Q(n p s:Nat)(l:List Nat)(b:Nat):z45 n p s (l++[b])=z2x n p (z45 n p s l) b:=by simp[z45]
theorem zdU(n p s:Nat)(l:List Nat)(b:Nat):z45 n p s (b::l)=z45 n p (z2x n p s b) l:=by simp[z45]
theorem z6O{p b:Nat}(hp:p < 2^n):z2x n p s b < 2^n:=by
 have h:s*2%2^n < 2^n:=Nat.mod_lt _ (Nat.two_pow_pos n)
 unfold z2x
 split
 ·exact h
 ·exact Nat.xor_lt_two_pow h hp
theorem z4j{p:Nat}(hp:p < 2^n):∀(l:List Nat) (s:Nat),s < 2^n->z45 n p s l < 2^n:=by
 intro l
 induction l with
 | nil=>intro s h;exact h
 | cons b l ih=>intro s _;rw[zdU];exact ih _ (z6O hp)
theorem zi7(hn:1<=n)(hs:s < 2^n):s / 2^(n - 1)<=1:=by
 have:2^n=2^(n - 1)*2:=by rw[<- Nat.pow_succ];congr 1;omega
 have h2:s / 2^(n - 1) < 2:=Nat.div_lt_of_lt_mul (by omega)
 omega
def zaB:List Value:=[.int .i64 0,.int .u64 0,.int .u64 0,.int .i64 15,.int .u64 17817,.int .u64 0,.int .i64 17,.int .u64 92251,.int .u64 65536,.int .i64 21,.int .u64 1058969,.int .u64 1048576,.int .i64 13,.int .u64 6631,.int .u64 1,.int .i64 32,.int .u64 4104977171,.int .u64 1]
def z1r(w:World):Prop:=∀i v,zaB[i]? = some v->w.cell? ⟨1,i,none⟩=some v
theorem z1r.below{w w':World}(h:z1r w)(hb:Nb w w'):z1r w':=fun i v hv=>by
 have:=h i v hv
 rw[hb.cell (p:=⟨1,i,none⟩) (World.block_lt_of_cell? _ _ this)]
 exact this
theorem z37 (k:Int) (w:World) (h:z1r w) :
    Calls Tryz.prog 191 #[.int .i64 k] w fun e w'=>e = .returned (.agg #[.int .i64 (szK k),.int .u64 (z08 k),.int .u64 (zD k)])/\Nb w w':=by
 by_cases h0:k < 0
 ·have e:z9p k=(0,0,0):=by rcases z1U k with (h | h | h | h | h) | h<;>first | exact h.1 | omega
  simp only[szK,z08,zD,e]
  go_enter Tryz.func191,Tryz.ntmps191
  go_wp2
  exact bodyPost_ret (v := .agg #[.int .i64 0,.int .u64 0,.int .u64 0]) (by simp[results,Tryz.results191,go_sem]) rfl ⟨rfl,Nb.rfl.al _⟩
 by_cases h6:6<=k
 ·have e:z9p k=(0,0,0):=by rcases z1U k with (h | h | h | h | h) | h<;>first | exact h.1 | omega
  simp only[szK,z08,zD,e]
  go_enter Tryz.func191,Tryz.ntmps191
  go_wp2
  exact bodyPost_ret (v := .agg #[.int .i64 0,.int .u64 0,.int .u64 0]) (by simp[results,Tryz.results191,go_sem]) rfl ⟨rfl,Nb.rfl.al _⟩
 rcases(by omega:k=0\/k=1\/k=2\/k=3\/k=4\/k=5)with rfl | rfl | rfl | rfl | rfl | rfl
 ·have c0:=h 0 _ rfl
  have c1:=h 1 _ rfl
  have c2:=h 2 _ rfl
  have hlt:1 < w.heap.size:=World.block_lt_of_cell? _ _ c0
  clear h h0 h6
  go_enter Tryz.func191,Tryz.ntmps191
  go_wp2
  exact bodyPost_ret (v := .agg #[.int .i64 (szK 0),.int .u64 (z08 0),.int .u64 (zD 0)]) (by simp[results,Tryz.results191,go_sem];exact⟨rfl,rfl,rfl⟩) rfl ⟨rfl,Nb.rfl.al _⟩
 ·have c0:=h 3 _ rfl
  have c1:=h 4 _ rfl
  have c2:=h 5 _ rfl
  have hlt:1 < w.heap.size:=World.block_lt_of_cell? _ _ c0
  clear h h0 h6
  go_enter Tryz.func191,Tryz.ntmps191
  go_wp2
  exact bodyPost_ret (v := .agg #[.int .i64 (szK 1),.int .u64 (z08 1),.int .u64 (zD 1)]) (by simp[results,Tryz.results191,go_sem];exact⟨rfl,rfl,rfl⟩) rfl ⟨rfl,Nb.rfl.al _⟩
 ·have c0:=h 6 _ rfl
  have c1:=h 7 _ rfl
  have c2:=h 8 _ rfl
  have hlt:1 < w.heap.size:=World.block_lt_of_cell? _ _ c0
  clear h h0 h6
  go_enter Tryz.func191,Tryz.ntmps191
  go_wp2
  exact bodyPost_ret (v := .agg #[.int .i64 (szK 2),.int .u64 (z08 2),.int .u64 (zD 2)]) (by simp[results,Tryz.results191,go_sem];exact⟨rfl,rfl,rfl⟩) rfl ⟨rfl,Nb.rfl.al _⟩
 ·have c0:=h 9 _ rfl
  have c1:=h 10 _ rfl
  have c2:=h 11 _ rfl
  have hlt:1 < w.heap.size:=World.block_lt_of_cell? _ _ c0
  clear h h0 h6
  go_enter Tryz.func191,Tryz.ntmps191
  go_wp2
  exact bodyPost_ret (v := .agg #[.int .i64 (szK 3),.int .u64 (z08 3),.int .u64 (zD 3)]) (by simp[results,Tryz.results191,go_sem];exact⟨rfl,rfl,rfl⟩) rfl ⟨rfl,Nb.rfl.al _⟩
 ·have c0:=h 12 _ rfl
  have c1:=h 13 _ rfl
  have c2:=h 14 _ rfl
  have hlt:1 < w.heap.size:=World.block_lt_of_cell? _ _ c0
  clear h h0 h6
  go_enter Tryz.func191,Tryz.ntmps191
  go_wp2
  exact bodyPost_ret (v := .agg #[.int .i64 (szK 4),.int .u64 (z08 4),.int .u64 (zD 4)]) (by simp[results,Tryz.results191,go_sem];exact⟨rfl,rfl,rfl⟩) rfl ⟨rfl,Nb.rfl.al _⟩
 ·have c0:=h 15 _ rfl
  have c1:=h 16 _ rfl
  have c2:=h 17 _ rfl
  have hlt:1 < w.heap.size:=World.block_lt_of_cell? _ _ c0
  clear h h0 h6
  go_enter Tryz.func191,Tryz.ntmps191
  go_wp2
  exact bodyPost_ret (v := .agg #[.int .i64 (szK 5),.int .u64 (z08 5),.int .u64 (zD 5)]) (by simp[results,Tryz.results191,go_sem];exact⟨rfl,rfl,rfl⟩) rfl ⟨rfl,Nb.rfl.al _⟩
theorem zfI(a b c:Value)(w:World):(Instr.field 247 (.agg #[a,b,c]) 0).run Tryz.prog w = .ok a w:=by kernel_rfl
theorem zfw(a b c:Value)(w:World):(Instr.field 247 (.agg #[a,b,c]) 2).run Tryz.prog w = .ok c w:=by kernel_rfl
theorem z7B (k:Int) (w:World) (h:z1r w) :
    Calls Tryz.prog 175 #[.int .i64 k] w fun e w'=>e = .returned (.int .i64 (szK k))/\Nb w w':=by
 have hf:=@zfI
 go_enter Tryz.func175,Tryz.ntmps175
 go_wp2_with fail
 refine(z37 k _ h).mono ?_
 rintro e w1 ⟨rfl,hnb⟩
 go_wp2
 go_ret
 exact⟨rfl,hnb⟩
theorem Blk.drewN{w:World}{R:Nat}{cs:Array Value}{t:TypeId}(h:Blk w R cs t)(n:Nat):Blk (w.drewN n) R cs t:=h
theorem zcO (n s:Nat) (h32:n<=32) (hs:s < 2^n) :
    bits BinOp.and IntKind.u64 ((s:Int)*2) (IntKind.u64.wrap (IntKind.u64.wrap (2^n) - 1))=((s*2%2^n:Nat):Int):=by
 have h1:(2:Nat)^n<=4294967296:=Nat.pow_le_pow_right (by omega) h32
 have h0:0 < (2:Nat)^n:=Nat.two_pow_pos n
 have h2:=bits_and_u64_nat (s*2) (2^n - 1) (by omega) (by omega)
 rw[Nat.and_two_pow_sub_one_eq_mod]at h2
 have h3:(2:Int)^n=((2^n:Nat):Int):=by push_cast;rfl
 have e2:IntKind.u64.wrap (IntKind.u64.wrap (2^n) - 1)=((2^n - 1:Nat):Int):=by
  rw[h3,IntKind.wrap_u64,IntKind.wrap_u64]
  omega
 rw[<- h2,e2]
 congr 1
theorem zgL (R n p s0 s b:Nat) (w:World) (h:Blk w R #[.int .i64 n,.int .u64 p,.int .u64 s0,.int .u64 s] 260) (hn:1<=n) (h32:n<=32) (hp:p < 2^n) (hs:s < 2^n) (hb:b<=1) :
    Calls Tryz.prog 205 #[.pointer (some ⟨R,0,none⟩),.int .u8 b] w fun e w'=>e = .returned (.tuple #[])/\Blk w' R #[.int .i64 n,.int .u64 p,.int .u64 s0,.int .u64 (z2x n p s b)] 260/\Kp (·=R) w w':=by
 have c0:w.cell? ⟨R,0,none⟩=some (.int .i64 n):=h.cell 0
 have c1:w.cell? ⟨R,1,none⟩=some (.int .u64 p):=h.cell 1
 have c3:w.cell? ⟨R,3,none⟩=some (.int .u64 s):=h.cell 3
 have f3:=h.frozen 3
 have hR:=h.lt
 obtain⟨q,hq⟩:∃q,q=s / 2^(n - 1):=⟨_,rfl⟩
 obtain⟨m,hm⟩:∃m,m=s*2%2^n:=⟨_,rfl⟩
 have HS:Hid (z2x n p s b=if q=b then m else m ^^^ p):=zH (by rw[hq,hm];rfl)
 have HE:Hid (bits BinOp.and IntKind.u64 ((s:Int)*2) (IntKind.u64.wrap (IntKind.u64.wrap (2^n) - 1))=(m:Int)):=zH (by rw[hm];exact zcO n s h32 hs)
 have H1:Hid ((s:Int) / 2^(n - 1)=(q:Int)):=zH (by rw[hq];push_cast;rfl)
 have HB:=zH h
 have hm2:m < 2^n:=by rw[hm];exact Nat.mod_lt _ (Nat.two_pow_pos n)
 have h64:(2:Nat)^n<=4294967296:=Nat.pow_le_pow_right (by omega) h32
 have hpb:p < 18446744073709551616:=by omega
 have hmb:m < 18446744073709551616:=by omega
 have hsb:s < 4294967296:=by omega
 have HX:=zH (bits_xor_u64_nat m p hmb hpb)
 have hq1:q<=1:=by rw[hq];exact zi7 hn hs
 clear h hq hm hm2 h64 hp hs
 go_enter Tryz.func205,Tryz.ntmps205
 go_wp2
 go_quiet (fail)
 go_wp2
 go_region
 rw[HE.out,H1.out]
 by_cases hqb:q=b
 ·have hd:((q:Int) != (b:Int))=false:=by rw[bne_eq_false_iff_eq];omega
  have HS2:=zH (HS.out.trans (if_pos hqb))
  clear hqb
  go_wp2
  go_end0
  rw[HS2.out]
  exact⟨rfl,(HB.out.drewN _).set 3 _,(Kp.ofNb (Nb.drewN _ _)).tr (Kp.set (F:=(·=R)) rfl) (fun _ h => .inl h)⟩
 ·have hd:((q:Int) != (b:Int))=true:=by rw[bne_iff_ne];omega
  have HS2:=zH (HS.out.trans (if_neg hqb))
  clear hqb
  go_wp2
  go_region
  go_wp2
  go_end0
  rw[HS2.out]
  refine⟨rfl,?_,?_⟩
  ·have:=(((HB.out.drewN (nq+1)).set 3 (.int .u64 m)).set 3 (.int .u64 (m ^^^ p:Nat))).drewN 1
   rw[HX.out]
   exact this
  ·exact(((Kp.ofNb (F:=(·=R)) (Nb.drewN _ _)).tr (Kp.set (F:=(·=R)) rfl) (fun _ h => .inl h)).tr (Kp.set (F:=(·=R)) rfl) (fun _ h => .inl h)).tr (Kp.ofNb (Nb.drewN _ 1)) (fun _ h => .inl h)
theorem z9U (F:Nat) (p:Value) (a:Option Addr) (cap:Nat) (l:List Nat) (I:Nat->World->Prop) (w:World) (hL:l.length<=9223372036854775807) (h0:I 0 w)
    (hbs:∀k w,I k w->Bs w a cap l)
    (hcf:∀args w,(callFunc F args).run Tryz.prog w = .ok (.enter F args) w)
    (hstep:∀k x w,I k w->l[k]? = some x->Calls Tryz.prog F #[p,.int .u8 (x:Int)] w fun e w'=>e = .returned (.tuple #[])/\I (k+1) w') :
    Calls Tryz.prog 204 #[.slice a l.length cap,.func (.func F) #[p] #[]] w fun e w'=>e = .returned (.tuple #[])/\I l.length w':=by
 have HB:=zH hbs
 have HS:=zH hstep
 clear hbs hstep
 go_enter Tryz.func204,Tryz.ntmps204
 go_wp2
 go_loopw [8] (fun i wr=>∃k:Nat,k<=l.length/\i = .int .i64 k/\I k wr) (fun i _=>l.length - (intOf i).toNat)
 case atStart=>exact⟨0,Nat.zero_le _,rfl,h0⟩
 case round =>
  obtain⟨k,hk,rfl,hI⟩:=hrel
  by_cases hlt:k < l.length
  ·obtain⟨b,o,rfl,hc⟩:=(HB.out k wr hI).hcells (by omega)
   obtain⟨x,hx⟩:∃x,l[k]? = some x:=⟨l[k],by simp[hlt]⟩
   have c1:=hc k hlt
   rw[show l.getD k 0=x from by simp[List.getD,hx]]at c1
   have HX:=zH hx
   clear hc hx
   go_wp2_with fail
   refine(HS.out k x wr hI HX.out).mono ?_
   rintro e w' ⟨rfl,hI'⟩
   go_wp2
   go_roundw
   case rel=>exact⟨k+1,by omega,by go_num,hI'⟩
   case measure=>simp[intOf];omega
  ·obtain rfl:k=l.length:=by omega
   go_wp2
   go_end0
   exact⟨rfl,hI⟩
def z0A(k:Int)(s:Nat)(l:List Nat):Bool:=decide (szK k≠0)&&decide (s < 2^szK k)&&chk l
def z4z(k:Int)(s:Nat)(l:List Nat):Nat:=if z0A k s l then z45 (szK k) (z08 k) s l else 0
def z5I(k:Int)(s:Nat)(l:List Nat):Nat:=if z0A k s l then 0 else 2
theorem zey (k:Int) (s:Nat) (a:Option Addr) (cap:Nat) (l:List Nat) (w:World) (hk:z1r w) (h:Bs w a cap l) (hz:szK k≠0) (hs:s < 2^szK k) (hc:chk l=true) :
    Calls Tryz.prog 190 #[.int .i64 k,.int .u64 s,.slice a l.length cap] w fun e w'=>e = .returned (.tuple #[.int .u64 (z45 (szK k) (z08 k) s l),.int .i64 0])/\Nb w w':=by
 have hL:=h.len
 have H:=zH h
 have HC:=zH hc
 have hbit:=zH (z0C hc)
 obtain⟨n1,n2,n3,_,_⟩:=z1C k hz
 have hd1:((szK k:Int)==0)=false:=by rw[beq_eq_false_iff_ne];omega
 have hd2:((s:Int) / 2^szK k != 0)=false:=by
  have e:((s:Int) / 2^szK k)=((s / 2^szK k:Nat):Int):=by push_cast;rfl
  rw[e,Nat.div_eq_of_lt hs];rfl
 have HS:=zH hs
 have N3:=zH n3
 have hmf:∀(fn:Fn) (first cap:Array Value) (w:World),(Instr.makeFunc fn first cap).run Tryz.prog w = .ok (.func fn first cap) w:=fun _ _ _ _=>rfl
 have hs64:s < 18446744073709551616:=by
  have:(2:Nat)^szK k<=4294967296:=Nat.pow_le_pow_right (by omega) n2
  omega
 clear h hc hs n3
 go_enter Tryz.func190,Tryz.ntmps190
 go_wp2_with fail
 refine(z37 k w hk).mono ?_
 rintro e w1 ⟨rfl,hnb⟩
 go_wp2_with fail
 refine(z3g a cap l _ (H.out.below (hnb.al _)) HC.out).mono ?_
 rintro e w2 ⟨rfl,rfl⟩
 go_wp2_with fail
 refine(z9U 205 (.pointer (some ⟨w1.heap.size,0,none⟩)) a cap l (fun j wr=>Blk wr w1.heap.size #[.int .i64 (szK k),.int .u64 (z08 k),.int .u64 (zD k),.int .u64 (z45 (szK k) (z08 k) s (l.take j))] 260/\Nb w wr) _ hL ⟨Blk.new _ _ _,hnb.al _⟩ (fun j wr hI=>H.out.below hI.2) (hcf _ _ Tryz.func205 (by rfl) (by decide +kernel)) ?_).mono ?_
 ·rintro j x wr ⟨hb,hn⟩ hx
  refine(zgL w1.heap.size (szK k) (z08 k) (zD k) _ x wr hb (by omega) n2 N3.out (z4j N3.out _ _ HS.out) (hbit.out x (List.mem_of_getElem? hx))).mono ?_
  rintro e w' ⟨rfl,hb',hk'⟩
  exact⟨rfl,by rw[zX hx,z5Q];exact hb',hn.trans (hk'.toBelow hn.size (by rintro k rfl;exact hnb.size))⟩
 ·rintro e w2 ⟨rfl,hb,hn⟩
  rw[List.take_of_length_le (Nat.le_refl _)]at hb
  have c0:w2.cell? ⟨w1.heap.size,3,none⟩=_:=hb.cell 3
  clear hb
  go_wp2
  go_ret2
  exact⟨rfl,hn⟩
theorem zhC (k:Int) (s:Nat) (a:Option Addr) (cap:Nat) (l:List Nat) (w:World) (hk:z1r w) (h:Bs w a cap l) (hs64:s < 18446744073709551616) (hm:z0A k s l=false) :
    Calls Tryz.prog 190 #[.int .i64 k,.int .u64 s,.slice a l.length cap] w fun e w'=>e = .returned (.tuple #[.int .u64 0,.int .i64 2])/\Nb w w':=by
 have hL:=h.len
 by_cases hz:szK k=0
 ·have hd1:((szK k:Int)==0)=true:=by rw[beq_iff_eq];omega
  clear hm
  go_enter Tryz.func190,Tryz.ntmps190
  go_wp2_with fail
  refine(z37 k w hk).mono ?_
  rintro e w1 ⟨rfl,hnb⟩
  go_wp2
  go_ret2
  exact⟨rfl,hnb.al _⟩
 ·obtain⟨n1,n2,_,_,_⟩:=z1C k hz
  have hd1:((szK k:Int)==0)=false:=by rw[beq_eq_false_iff_ne];omega
  have e:((s:Int) / 2^szK k)=((s / 2^szK k:Nat):Int):=by push_cast;rfl
  by_cases hs:s < 2^szK k
  ·have hc:chk l=false:=by simpa [z0A,hz,hs]using hm
   have H:=zH h
   have HC:=zH hc
   have hd2:((s:Int) / 2^szK k != 0)=false:=by rw[e,Nat.div_eq_of_lt hs];rfl
   clear h hc hm e hs
   go_enter Tryz.func190,Tryz.ntmps190
   go_wp2_with fail
   refine(z37 k w hk).mono ?_
   rintro e w1 ⟨rfl,hnb⟩
   go_wp2_with fail
   refine(z5e a cap l _ (H.out.below (hnb.al _)) HC.out).mono ?_
   rintro e w2 ⟨rfl,rfl⟩
   go_wp2
   go_ret2
   exact⟨rfl,hnb.al _⟩
  ·have hd2:((s:Int) / 2^szK k != 0)=true:=by
    rw[e,bne_iff_ne]
    have:0 < s / 2^szK k:=Nat.div_pos (by omega) (Nat.two_pow_pos _)
    omega
   clear hm e hs
   go_enter Tryz.func190,Tryz.ntmps190
   go_wp2_with fail
   refine(z37 k w hk).mono ?_
   rintro e w1 ⟨rfl,hnb⟩
   go_wp2
   go_ret2
   exact⟨rfl,hnb.al _⟩
theorem zjO (k:Int) (s:Nat) (a:Option Addr) (cap:Nat) (l:List Nat) (w:World) (hk:z1r w) (h:Bs w a cap l) (hs64:s < 18446744073709551616) :
    Calls Tryz.prog 190 #[.int .i64 k,.int .u64 s,.slice a l.length cap] w fun e w'=>e = .returned (.tuple #[.int .u64 (z4z k s l),.int .i64 (z5I k s l)])/\Nb w w':=by
 cases hm:z0A k s l with
 | true =>
   simp only[z4z,z5I,hm,if_true]
   simp only[z0A,Bool.and_eq_true,decide_eq_true_eq]at hm
   exact zey k s a cap l w hk h hm.1.1 hm.1.2 hm.2
 | false =>
   simp only[z4z,z5I,hm,Bool.false_eq_true,if_false]
   exact zhC k s a cap l w hk h hs64 hm
theorem z9g(k:Int):zD k < 18446744073709551616:=by
 rcases z1U k with (rfl | rfl | rfl | rfl | rfl) | ⟨h1,_⟩
 iterate 5 decide
 simp[zD,h1]
def zhZ(k:Int)(l:List Nat):Nat:=z4z k (zD k) l
def zgu(k:Int)(l:List Nat):Nat:=z5I k (zD k) l
theorem zh5 (k:Int) (a:Option Addr) (cap:Nat) (l:List Nat) (w:World) (hk:z1r w) (h:Bs w a cap l) :
    Calls Tryz.prog 174 #[.int .i64 k,.slice a l.length cap] w fun e w'=>e = .returned (.tuple #[.int .u64 (zhZ k l),.int .i64 (zgu k l)])/\Nb w w':=by
 have hf:=@zfw
 have H:=zH h
 have HK:=zH hk
 have HS:=zH (z9g k)
 clear h hk
 go_enter Tryz.func174,Tryz.ntmps174
 go_wp2_with fail
 refine(z37 k w HK.out).mono ?_
 rintro e w1 ⟨rfl,hnb⟩
 go_wp2_with fail
 refine(zjO k (zD k) a cap l _ (HK.out.below hnb) (H.out.below hnb) HS.out).mono ?_
 rintro e w2 ⟨rfl,hn2⟩
 go_wp2
 go_ret2
 exact⟨rfl,hnb.tr hn2⟩
theorem z5x (k:Int) (w:World) :
    Calls Tryz.prog 87 #[.int .i64 k] w fun e w'=>e = .returned (.tuple #[.int .i64 (szK k),.int .u64 (z08 k),.int .u64 (zD k)])/\w=w':=by
 rcases z1U k with (rfl | rfl | rfl | rfl | rfl) | ⟨h1,g1,g2,g3,g4,g5⟩
 iterate 5
  ·go_enter Tryz.func87,Tryz.ntmps87
   go_wp2
   go_ret3
   exact⟨rfl,rfl⟩
 simp only[szK,z08,zD,h1]
 have d1:(k==1)=false:=by simpa using g1
 have d2:(k==2)=false:=by simpa using g2
 have d3:(k==3)=false:=by simpa using g3
 have d4:(k==4)=false:=by simpa using g4
 have d5:(k==5)=false:=by simpa using g5
 go_enter Tryz.func87,Tryz.ntmps87
 go_wp2
 go_ret3
 exact⟨rfl,rfl⟩
theorem zca (k:Int) (s:Nat) (a:Option Addr) (cap:Nat) (l:List Nat) (w:World) (h:Bs w a cap l) (hz:szK k≠0) (hs:s < 2^szK k) (hb:∀x∈l,x<=1) :
    Calls Tryz.prog 126 #[.int .i64 k,.int .u64 s,.slice a l.length cap] w fun e w'=>e = .returned (.int .u64 (z45 (szK k) (z08 k) s l))/\Nb w w':=by
 have hL:=h.len
 have H:=zH h
 have hbit:=zH hb
 obtain⟨n1,n2,n3,_,_⟩:=z1C k hz
 have HS:=zH hs
 have N3:=zH n3
 clear h hs n3 hb
 go_enter Tryz.func126,Tryz.ntmps126
 go_wp2_with fail
 refine(z5x k w).mono ?_
 rintro e w1 ⟨rfl,rfl⟩
 go_wp2
 go_loop [1,21] (fun z i=>∃j:Nat,j<=l.length/\i = .int .i64 j/\z = .int .u64 (z45 (szK k) (z08 k) s (l.take j))) (fun _ i=>l.length - (intOf i).toNat)
 case atStart=>exact⟨0,Nat.zero_le _,rfl,rfl⟩
 case round =>
  obtain⟨j,hj,rfl,rfl⟩:=hrel
  by_cases hlt:j < l.length
  ·obtain⟨b,o,rfl,hcl⟩:=H.out.hcells (by omega)
   obtain⟨x,hx⟩:∃x,l[j]? = some x:=⟨l[j],by simp[hlt]⟩
   have c1:=hcl j hlt
   rw[show l.getD j 0=x from by simp[List.getD,hx]]at c1
   have hx1:x<=1:=hbit.out x (List.mem_of_getElem? hx)
   obtain⟨S,hS⟩:∃S,S=z45 (szK k) (z08 k) s (l.take j):=⟨_,rfl⟩
   have hSl:S < 2^szK k:=by rw[hS];exact z4j N3.out _ _ HS.out
   have HT:Hid (z45 (szK k) (z08 k) s (l.take (j+1))=z2x (szK k) (z08 k) S x):=zH (by rw[zX hx,z5Q,hS])
   rw[<- hS]
   obtain⟨q,hq⟩:∃q,q=S / 2^(szK k - 1):=⟨_,rfl⟩
   obtain⟨m,hm⟩:∃m,m=S*2%2^szK k:=⟨_,rfl⟩
   have HZ:Hid (z2x (szK k) (z08 k) S x=if q=x then m else m ^^^ z08 k):=zH (by rw[hq,hm];rfl)
   have H1:Hid ((S:Int) / 2^(szK k - 1)=(q:Int)):=zH (by rw[hq];push_cast;rfl)
   have hm2:m < 2^szK k:=by rw[hm];exact Nat.mod_lt _ (Nat.two_pow_pos _)
   have h64:(2:Nat)^szK k<=4294967296:=Nat.pow_le_pow_right (by omega) n2
   have hpb:z08 k < 18446744073709551616:=by have:=N3.out;omega
   have hmb:m < 18446744073709551616:=by omega
   have hSb:S < 4294967296:=by omega
   have HX:=zH (bits_xor_u64_nat m (z08 k) hmb hpb)
   have hq1:q<=1:=by rw[hq];exact zi7 (by omega) hSl
   clear hcl hx hS hq hSl
   obtain⟨P,hP⟩:∃P,P=2^szK k:=⟨_,rfl⟩
   have hP0:0 < P:=by rw[hP];exact Nat.two_pow_pos _
   have hW:IntKind.u64.wrap (2^szK k)=(P:Int):=by
    have e:(2:Int)^szK k=((2^szK k:Nat):Int):=by push_cast;rfl
    rw[e,IntKind.wrap_u64,hP]
    omega
   have HM:Hid ((S:Int)*2%(P:Int)=(m:Int)):=zH (by rw[hm,hP];push_cast;rfl)
   have hqt:((S:Int) / 2^(szK k - 1)).tmod 2=(q:Int):=by rw[H1.out];rcases(by omega:q=0\/q=1)with rfl | rfl<;>rfl
   have HJ:∀z:Int,z=((z45 (szK k) (z08 k) s (l.take (j+1)):Nat):Int)->(∃j1,j1<=l.length/\Value.int IntKind.i64 ((j:Int)+1)=Value.int IntKind.i64 (j1:Int)/\Value.int .u64 z=Value.int .u64 (z45 (szK k) (z08 k) s (l.take j1))):=fun z hz=>⟨j+1,by omega,by simp,by rw[hz]⟩
   have HJ:=zH HJ
   clear hm hP h64 hm2
   by_cases hqx:q=x
   ·have hd:(((S:Int) / 2^(szK k - 1)).tmod 2 != (x:Int))=false:=by rw[hqt,bne_eq_false_iff_eq];omega
    have HZ2:=zH (HZ.out.trans (if_pos hqx))
    clear hqx hqt
    go_wp2
    go_round
    case rel=>exact HJ.out _ (by rw[HT.out,HZ2.out,HM.out])
    case measure=>simp[intOf];omega
   ·have hd:(((S:Int) / 2^(szK k - 1)).tmod 2 != (x:Int))=true:=by rw[hqt,bne_iff_ne];omega
    have HZ2:=zH (HZ.out.trans (if_neg hqx))
    clear hqx hqt
    go_wp2
    go_round
    case rel=>exact HJ.out _ (by rw[HT.out,HZ2.out,HM.out,HX.out])
    case measure=>simp[intOf];omega
  ·obtain rfl:j=l.length:=by omega
   rw[List.take_of_length_le (Nat.le_refl _)]
   go_wp2
   go_ret
   exact⟨rfl,Nb.rfl⟩
theorem zeC (k:Int) (s:Nat) (a:Option Addr) (cap:Nat) (l:List Nat) (w:World) (h:Bs w a cap l) (hs64:s < 18446744073709551616) :
    Calls Tryz.prog 108 #[.int .i64 k,.int .u64 s,.slice a l.length cap] w fun e w'=>e = .returned (.tuple #[.int .u64 (z4z k s l),.int .i64 (z5I k s l)])/\Nb w w':=by
 have hL:=h.len
 have H:=zH h
 clear h
 by_cases hz:szK k=0
 ·have hm:z0A k s l=false:=by simp[z0A,hz]
  simp only[z4z,z5I,hm,Bool.false_eq_true,if_false]
  have hd1:((szK k:Int)==0)=true:=by rw[beq_iff_eq];omega
  clear hm
  go_enter Tryz.func108,Tryz.ntmps108
  go_wp2_with fail
  refine(z5x k w).mono ?_
  rintro e w1 ⟨rfl,rfl⟩
  go_wp2
  go_ret2
  exact⟨rfl,Nb.rfl⟩
 ·obtain⟨n1,n2,_,_,_⟩:=z1C k hz
  have hd1:((szK k:Int)==0)=false:=by rw[beq_eq_false_iff_ne];omega
  obtain⟨P,hP⟩:∃P,P=2^szK k:=⟨_,rfl⟩
  have h64:P<=4294967296:=by rw[hP];exact Nat.pow_le_pow_right (by omega) n2
  have hW:IntKind.u64.wrap (2^szK k)=(P:Int):=by
   have e:(2:Int)^szK k=((2^szK k:Nat):Int):=by push_cast;rfl
   rw[e,IntKind.wrap_u64,hP]
   omega
  cases hc:chk l with
  | false =>
    have hm:z0A k s l=false:=by simp[z0A,hc]
    simp only[z4z,z5I,hm,Bool.false_eq_true,if_false]
    have HC:=zH hc
    clear hm hc hP
    go_enter Tryz.func108,Tryz.ntmps108
    go_wp2_with fail
    refine(z5x k w).mono ?_
    rintro e w1 ⟨rfl,rfl⟩
    go_wp2_with fail
    refine(z8B a cap l _ H.out HC.out).mono ?_
    rintro e w1 ⟨rfl,rfl⟩
    go_wp2
    go_ret2
    exact⟨rfl,Nb.rfl⟩
  | true =>
    have HC:=zH hc
    by_cases hs:s < 2^szK k
    ·have hm:z0A k s l=true:=by simp[z0A,hc,hz,hs]
     simp only[z4z,z5I,hm,if_true]
     have HS:=zH hs
     have hd2:s < P:=by rw[hP];exact hs
     have hd3:decide (P<=s)=false:=by rw[decide_eq_false_iff_not];omega
     clear hm hc hP hs
     go_enter Tryz.func108,Tryz.ntmps108
     go_wp2_with fail
     refine(z5x k w).mono ?_
     rintro e w1 ⟨rfl,rfl⟩
     go_wp2_with fail
     refine(z62 a cap l _ H.out HC.out).mono ?_
     rintro e w1 ⟨rfl,rfl⟩
     go_wp2_with fail
     refine(zca k s a cap l w H.out hz HS.out (z0C HC.out)).mono ?_
     rintro e w1 ⟨rfl,hnb⟩
     go_wp2
     go_ret2
     exact⟨rfl,hnb⟩
    ·have hm:z0A k s l=false:=by simp[z0A,hs]
     simp only[z4z,z5I,hm,Bool.false_eq_true,if_false]
     have hd2:P<=s:=by omega
     have hd3:decide (P<=s)=true:=by rw[decide_eq_true_eq];omega
     clear hm hc hP hs
     go_enter Tryz.func108,Tryz.ntmps108
     go_wp2_with fail
     refine(z5x k w).mono ?_
     rintro e w1 ⟨rfl,rfl⟩
     go_wp2_with fail
     refine(z62 a cap l _ H.out HC.out).mono ?_
     rintro e w1 ⟨rfl,rfl⟩
     go_wp2
     go_ret2
     exact⟨rfl,Nb.rfl⟩
theorem zb1 (k:Int) (a:Option Addr) (cap:Nat) (l:List Nat) (w:World) (h:Bs w a cap l) :
    Calls Tryz.prog 86 #[.int .i64 k,.slice a l.length cap] w fun e w'=>e = .returned (.tuple #[.int .u64 (zhZ k l),.int .i64 (zgu k l)])/\Nb w w':=by
 have H:=zH h
 have HS:=zH (z9g k)
 clear h
 go_enter Tryz.func86,Tryz.ntmps86
 go_wp2_with fail
 refine(z5x k w).mono ?_
 rintro e w1 ⟨rfl,rfl⟩
 go_wp2_with fail
 refine(zeC k (zD k) a cap l _ H.out HS.out).mono ?_
 rintro e w2 ⟨rfl,hn2⟩
 go_wp2
 go_ret2
 exact⟨rfl,hn2⟩
theorem zb5 (n:Nat) (w:World) (h0:0 < n) (hn:n<=70368744177664) :
    Calls Tryz.prog 79 #[.slice none 0 0,.int .i64 n] w fun e w'=>(∃g c,e = .returned (.slice (some ⟨g,0,none⟩) 0 c)/\z04 w' (.slice (some ⟨g,0,none⟩) 0 c) []/\w.heap.size<=g)/\Nb w w':=by
 obtain⟨i0,hi,hz0,hz1,hz2⟩:=info_parts z5G
 have hge:=grownCap_ge w n 0 5
 have hle:=grownCap_le_maxLen w n 0 5 (by unfold maxLen;omega)
 have hrz:∀ty,_:=fun ty=>Lib.run_append_nil_zeros (P:=Tryz.prog) w 35 3 ty 5 i0 (.int .u8 0) .i64 .i64 Tryz.underlying35 Tryz.underlying3 hi hz0 n h0 (by omega) (by omega) (by rw[hz2];omega)
 have hown:z04 (w.drew.alloc (.cells (Builtin.zeroCells (Value.int .u8 0).cells n++Builtin.zeroCells (Value.int .u8 0).cells (grownCap w n 0 5 - n)) 5)) (.slice (some ⟨w.heap.size,0,none⟩) 0 (grownCap w n 0 5)) []:=by
  refine⟨⟨by simp,.inr ⟨w.heap.size,grownCap w n 0 5,_,by simp,Nat.zero_le _,heap_alloc_new w.drew _,Nat.zero_le _,hle,?_,by simp⟩⟩,by simp⟩
  simp[Builtin.zeroCells,Value.cells]
  omega
 have HO:=zH hown
 have hmx:grownCap w n 0 5<=9223372036854775807:=by unfold maxLen at hle;omega
 obtain⟨G,hG⟩:∃G,G=grownCap w n 0 5:=⟨_,rfl⟩
 rw[<- hG]at hrz hge hmx HO
 clear hown hle hG hi hz0 hz1 hz2
 go_enter Tryz.func79,Tryz.ntmps79
 go_wp2_with (at_builtin;refine Lib.wpList_append_run _ rfl _ _ _ _ rfl _ _ rfl rfl _ _ (hrz _) ?_)
 go_wp2
 go_ret
 exact⟨⟨_,_,rfl,HO.out,Nat.le_refl _⟩,(show Nb w w.drew from Nb.drewN w 1).al _⟩
theorem z2g (b o:Nat) (a1 a2:Option Addr) (c1 c2:Nat) (l1 l2:List Nat) (w:World) (d1:w.cell? ⟨b,o,none⟩=some (.slice a1 l1.length c1)) (d2:w.cell? ⟨b,o+1,none⟩=some (.slice a2 l2.length c2))
    (h1:Bs w a1 c1 l1) (h2:Bs w a2 c2 l2) (h2n:0 < l2.length) (hn1:a1=none->c1=0) (hl1:l1.length<=1000000) (hl2:l2.length<=1000000) :
    Calls Tryz.prog 46 #[.slice (some ⟨b,o,none⟩) 2 2] w fun e w'=>(∃a c,e = .returned (.slice a (l1++l2).length c)/\zf w w' (.slice a (l1++l2).length c) (l1++l2))/\Nb w w':=by
 have hb:=World.block_lt_of_cell? _ _ d1
 simp only at hb
 go_enter Tryz.func46,Tryz.ntmps46
 go_wp2
 go_loop [3,11] (fun s i=>(i = .int .i64 0/\s = .int .i64 0)\/(i = .int .i64 1/\s = .int .i64 (l1.length:Int))\/(i = .int .i64 2/\s = .int .i64 ((l1.length:Int)+(l2.length:Int)))) (fun _ i=>2 - (intOf i).toNat)
 case atStart=>exact .inl ⟨rfl,rfl⟩
 case round =>
  rcases hrel with ⟨rfl,rfl⟩ | ⟨rfl,rfl⟩ | ⟨rfl,rfl⟩
  ·go_wp2
   go_round
   case rel=>exact .inr (.inl ⟨rfl,rfl⟩)
   case measure=>simp[intOf]
  ·go_wp2
   go_round
   case rel=>exact .inr (.inr ⟨rfl,rfl⟩)
   case measure=>simp[intOf]
  ·have H1:=zH h1
   have H2:=zH h2
   have D1:=zH d1
   have D2:=zH d2
   clear h1 h2 d1 d2
   go_wp2_with fail
   have hgr:=zb5 (l1.length+l2.length) w (by omega) (by omega)
   rw[show((l1.length+l2.length:Nat):Int)=(l1.length:Int)+(l2.length:Int)from by omega]at hgr
   refine hgr.mono ?_
   rintro e w1 ⟨⟨g,c,rfl,ho,hg⟩,hnb⟩
   clear hgr
   go_wp2
   go_loopw [6,27] (fun v i wr=>((i = .int .i64 0/\zf w wr v [])\/(i = .int .i64 1/\zf w wr v l1)\/(i = .int .i64 2/\zf w wr v (l1++l2)))/\Nb w wr) (fun _ i _=>2 - (intOf i).toNat)
   case atStart=>exact⟨.inl ⟨rfl,ho,by simpa [Value.ownBlock]using hg⟩,hnb⟩
   case round =>
    obtain⟨hrel,hnb2⟩:=hrel
    clear ho hg hnb
    have e1:wr.cell? ⟨b,o,none⟩=some (.slice a1 l1.length c1):=(hnb2.cell (p:=⟨b,o,none⟩) hb).trans D1.out
    have e2:wr.cell? ⟨b,o+1,none⟩=some (.slice a2 l2.length c2):=(hnb2.cell (p:=⟨b,o+1,none⟩) hb).trans D2.out
    rcases hrel with ⟨rfl,ho⟩ | ⟨rfl,ho⟩ | ⟨rfl,ho⟩
    ·go_wp2_with (at_builtin;refine zd _ rfl (.tmp 31) (.tmp 32) rfl _ [] rfl ho.1 a1 c1 l1 l1.length rfl rfl (H1.out.below hnb2) (by intro h;subst h;exact⟨by rw[H1.out.none_len];rfl,hn1 rfl⟩) (by simp;omega) ?_)
     intro v' w2 hown' hk hfr
     have hrel:zf w w2 v' l1:=⟨hown',fun g hg=>by
      rcases hfr g hg with h | h
      ·exact ho.2 g h
      ·exact Nat.le_trans hnb2.size h⟩
     have hnb3:Nb w w2:=hnb2.trans (hk.toBelow hnb2.size ho.2)
     clear hown' hk hfr ho e1 e2 hnb2
     go_wp2
     go_roundw
     case rel=>exact⟨.inr (.inl ⟨rfl,hrel⟩),hnb3⟩
     case measure=>simp[intOf]
    ·go_wp2_with (at_builtin;refine zd _ rfl (.tmp 31) (.tmp 32) rfl _ l1 rfl ho.1 a2 c2 l2 l2.length rfl rfl (H2.out.below hnb2) (by intro h;subst h;have:=H2.out.none_len;subst this;simp at h2n) (by omega) ?_)
     intro v' w2 hown' hk hfr
     have hrel:zf w w2 v' (l1++l2):=⟨hown',fun g hg=>by
      rcases hfr g hg with h | h
      ·exact ho.2 g h
      ·exact Nat.le_trans hnb2.size h⟩
     have hnb3:Nb w w2:=hnb2.trans (hk.toBelow hnb2.size ho.2)
     clear hown' hk hfr ho e1 e2 hnb2
     go_wp2
     go_roundw
     case rel=>exact⟨.inr (.inr ⟨rfl,hrel⟩),hnb3⟩
     case measure=>simp[intOf]
    ·obtain⟨a',c',rfl,hbs,_⟩:=ho.1.bs
     have HO:=zH ho
     clear ho hbs e1 e2
     go_wp2
     go_ret
     exact⟨⟨_,_,rfl,HO.out⟩,hnb2⟩
def z56(k:Int)(l:List Nat):List Nat:=if z0A k (zD k) l then l++zc (z45 (szK k) (z08 k) (zD k) l) (szK k)else []
def z1F(k:Int)(l:List Nat):Bool :=
 decide (szK k≠0)&&decide (szK k<=l.length)&&chk l&&decide (zF (l.drop (l.length - szK k))=z45 (szK k) (z08 k) (zD k) (l.take (l.length - szK k)))
theorem z63(h:z0A k (zD k) l=true):zhZ k l=z45 (szK k) (z08 k) (zD k) l/\zgu k l=0:=by simp[zhZ,zgu,z4z,z5I,h]
theorem zbt(h:z0A k (zD k) l=false):zhZ k l=0/\zgu k l=2:=by simp[zhZ,zgu,z4z,z5I,h]
theorem z2R(h:z0A k s l=true):szK k≠0/\s < 2^szK k/\chk l=true:=by
 simp only[z0A,Bool.and_eq_true,decide_eq_true_eq]at h
 exact⟨h.1.1,h.1.2,h.2⟩
theorem z2W(hz:szK k≠0)(hc:chk l=true):z0A k (zD k) l=true:=by
 simp[z0A,hz,hc,(z1C k hz).start]
theorem ziB (k:Int) (a:Option Addr) (cap:Nat) (l:List Nat) (w:World) (hk:z1r w) (h:Bs w a cap l) (hn:a=none->cap=0) :
    Calls Tryz.prog 151 #[.int .i64 k,.slice a l.length cap] w fun e w'=>(∃a' c',e = .returned (.tuple #[.slice a' (z56 k l).length c',.int .i64 (zgu k l)])/\zf w w' (.slice a' (z56 k l).length c') (z56 k l))/\Nb w w':=by
 have hL:=h.len
 have H:=zH h
 have HK:=zH hk
 cases hm:z0A k (zD k) l with
 | false =>
   have hs:=zbt hm
   have ha:z56 k l=[]:=by simp[z56,hm]
   have h1:=zh5 k a cap l w hk h
   rw[hs.1,hs.2]at h1
   rw[ha,hs.2]
   have H1:=zH h1
   clear h hk hm hs ha h1
   go_enter Tryz.func151,Tryz.ntmps151
   go_wp2_with fail
   refine H1.out.mono ?_
   rintro e w1 ⟨rfl,hnb⟩
   go_wp2
   go_ret2
   exact⟨⟨none,0,rfl,z04.nil _,by simp[Value.ownBlock]⟩,hnb⟩
 | true =>
   obtain⟨hz,_,hc⟩:=z2R hm
   obtain⟨n1,n2,n3,_,n5⟩:=z1C k hz
   have hs:=z63 hm
   have ha:z56 k l=l++zc (z45 (szK k) (z08 k) (zD k) l) (szK k):=by simp[z56,hm]
   have h1:=zh5 k a cap l w hk h
   rw[hs.1,hs.2]at h1
   rw[ha,hs.2]
   have hS:=z4j n3 l _ n5
   generalize z45 (szK k) (z08 k) (zD k) l=S at *
   have H1:=zH h1
   have HS:=zH hS
   have hl:=z1h hc
   have hbl:=zb S (szK k)
   clear h hk hm hs ha h1 hS hc n3 n5
   go_enter Tryz.func151,Tryz.ntmps151
   go_wp2_with fail
   refine H1.out.mono ?_
   rintro e w1 ⟨rfl,hnb⟩
   go_wp2_with fail
   refine(z7B k _ (HK.out.below hnb)).mono ?_
   rintro e w2 ⟨rfl,hnb2⟩
   go_wp2_with fail
   refine(zid S (szK k) _ (by omega) HS.out).mono ?_
   rintro e w3 ⟨⟨a3,c3,rfl,hb3⟩,hnb3⟩
   have HB:=zH hb3
   have n123:=(hnb.tr hnb2).tr hnb3
   have N123:=zH n123
   clear hb3 hnb hnb2 hnb3
   go_wp2_with fail
   have hcat:=z2g w3.heap.size 0 a a3 cap c3 l (zc S (szK k)) (w3.alloc (.cells #[.slice a l.length cap,.slice a3 (szK k) c3] 35)) (by simp) (by simp[hbl]) (H.out.below (n123.al _)) (HB.out.below (Nb.rfl.al _)) (by omega) hn (by omega) (by omega)
   refine hcat.mono ?_
   rintro e w4 ⟨⟨a',c',rfl,hf⟩,hn4⟩
   have hfin:(zf w w4 (.slice a' (l++zc S (szK k)).length c') (l++zc S (szK k))):=⟨hf.1,fun g hg=>Nat.le_trans (n123.al _).size (hf.2 g hg)⟩
   have hnf:=(n123.al _).tr hn4
   have HF:=zH hfin
   clear hcat hf hfin hn4 n123
   go_wp2
   go_ret2
   exact⟨⟨a',c',by rw[List.length_append,hbl];rfl,HF.out⟩,hnf⟩
theorem z4R (k:Int) (a:Option Addr) (cap:Nat) (l:List Nat) (w:World) (h:Bs w a cap l) (hn:a=none->cap=0) :
    Calls Tryz.prog 50 #[.int .i64 k,.slice a l.length cap] w fun e w'=>z9H (z56 k l) (zgu k l) e w'/\Nb w w':=by
 have hL:=h.len
 have H:=zH h
 cases hm:z0A k (zD k) l with
 | false =>
   have hs:=zbt hm
   have ha:z56 k l=[]:=by simp[z56,hm]
   have h1:=zb1 k a cap l w h
   rw[hs.1,hs.2]at h1
   rw[ha,hs.2]
   have H1:=zH h1
   clear h hm hs ha h1
   go_enter Tryz.func50,Tryz.ntmps50
   go_wp2_with fail
   refine H1.out.mono ?_
   rintro e w1 ⟨rfl,hnb⟩
   go_wp2
   go_ret2
   exact⟨⟨none,0,rfl,Bs.nil _⟩,hnb⟩
 | true =>
   obtain⟨hz,_,hc⟩:=z2R hm
   obtain⟨n1,n2,n3,_,n5⟩:=z1C k hz
   have hs:=z63 hm
   have ha:z56 k l=l++zc (z45 (szK k) (z08 k) (zD k) l) (szK k):=by simp[z56,hm]
   have h1:=zb1 k a cap l w h
   rw[hs.1,hs.2]at h1
   rw[ha,hs.2]
   have hS:=z4j n3 l _ n5
   generalize z45 (szK k) (z08 k) (zD k) l=S at *
   have h64:(2:Nat)^szK k<=4294967296:=Nat.pow_le_pow_right (by omega) n2
   have H1:=zH h1
   have hS64:S < 18446744073709551616:=by omega
   have hl:=z1h hc
   have hbl:=zb S (szK k)
   clear h hm hs ha h1 hS hc n3 n5 h64
   go_enter Tryz.func50,Tryz.ntmps50
   go_wp2_with fail
   refine H1.out.mono ?_
   rintro e w1 ⟨rfl,hnb⟩
   go_wp2_with fail
   refine(z5x k _).mono ?_
   rintro e w2 ⟨rfl,rfl⟩
   go_wp2_with (at_builtin;refine zd _ rfl (.tmp 26) (.tmp 27) rfl _ [] rfl (z04.fresh0 _) a cap l l.length rfl rfl (H.out.below (hnb.al _)) (by intro h;subst h;exact⟨by rw[H.out.none_len];rfl,hn rfl⟩) (by simp;omega) ?_)
   intro v1 w2 ho1 hk1 hf1
   have fr1:∀g,v1.ownBlock=some g->w.heap.size<=g:=fun g hg=>by
    rcases hf1 g hg with h | h
    ·simp[Value.ownBlock]at h
     have:=hnb.size
     omega
    ·have:=hnb.size
     omega
   have hnb2:Nb w w2:=(hnb.al _).trans (hk1.toBelow (Nat.le_trans hnb.size (by simp)) (by intro g hg;simp[Value.ownBlock]at hg;have:=hnb.size;omega))
   have HO:=zH ho1
   clear ho1 hk1 hf1 hnb
   go_wp2_with fail
   refine(z06 S (szK k) _ hS64 (by omega)).mono ?_
   rintro e w3 ⟨⟨a3,c3,rfl,hb3⟩,hnb3⟩
   have ho2:=HO.out.keep (F:=fun _=>False) (Kp.ofNb hnb3) (by simp)
   have hsz3:a3=none->szK k=0/\c3=0:=by
    rintro rfl
    exact absurd (by rw[<- hbl,hb3.none_len];rfl:szK k=0) hz
   go_wp2_with (at_builtin;refine zd _ rfl (.tmp 28) (.tmp 31) rfl _ l rfl ho2 a3 c3 (zc S (szK k)) (szK k) hbl.symm rfl hb3 hsz3 (by omega) ?_)
   intro v2 w4 ho4 hk4 hf4
   obtain⟨a4,c4,rfl,hb4,_⟩:=ho4.bs
   have hnb4:Nb w w4:=(hnb2.tr hnb3).trans (hk4.toBelow (hnb2.tr hnb3).size fr1)
   have HB:=zH hb4
   clear ho4 hk4 hf4 hb4 ho2 hnb2 hnb3 hb3
   go_wp2
   go_ret2
   exact⟨⟨a4,c4,rfl,HB.out⟩,hnb4⟩
theorem zgB(k:Int)(l:List Nat)(hm:z0A k (zD k) l=true)(hl:l.length<=60000):z1F k (z56 k l)=true/\(z56 k l).take l.length=l/\(z56 k l).length=l.length+szK k/\∀b∈z56 k l,b<=1:=by
 obtain⟨hz,_,hc⟩:=z2R hm
 obtain⟨n1,n2,n3,n4,n5⟩:=z1C k hz
 have ha:z56 k l=l++zc (z45 (szK k) (z08 k) (zD k) l) (szK k):=by simp[z56,hm]
 have hS:=z4j n3 l _ n5
 have hlen:(z56 k l).length=l.length+szK k:=by rw[ha,List.length_append,zb]
 have hbits:∀b∈z56 k l,b<=1:=by
  intro b hb
  rw[ha]at hb
  rcases List.mem_append.1 hb with h | h
  ·exact z0C hc b h
  ·have:=z7x _ _ b h;omega
 refine⟨?_,by rw[ha];simp,hlen,hbits⟩
 have hc2:chk (z56 k l)=true:=by
  simp only[chk,Bool.and_eq_true,decide_eq_true_eq,List.all_eq_true]
  exact⟨by omega,hbits⟩
 have e:(z56 k l).length - szK k=l.length:=by omega
 simp only[z1F,hc2,e,Bool.and_eq_true,decide_eq_true_eq]
 refine⟨⟨⟨hz,by omega⟩,trivial⟩,?_⟩
 rw[ha]
 simp[z0q _ _ hS]
theorem zi1 : Tryz.prog.globalNamed "omnibus/crc.kinds" = some 1 := by kernel_rfl
theorem zkr:(Tryz.prog.globals[1]?).map (·.type)=some 261:=by kernel_rfl
theorem z8P:Tryz.prog.cellsOf 247=3:=by kernel_rfl
theorem zg1:Tryz.prog.cellsOf 3=1:=by kernel_rfl
theorem zgV:Tryz.prog.cellsOf 73=1:=by kernel_rfl
theorem zfc {H:Type} {enc:TypeId × Value->H} {w:World} {base:Nat} {sp:Nat->Bool} {held:Bool} {fuel:Nat} {cs:List Value} {a b c:Int} {p:List MemPlace}
    (h:DataW.trod enc Tryz.prog w base sp held fuel 247 cs=some (.agg [.lit (.int .i64 a),.lit (.int .u64 b),.lit (.int .u64 c)],p)):cs=[.int .i64 a,.int .u64 b,.int .u64 c]:=by
 obtain⟨y0,y1,y2,n,hx,hl,h0,h1,h2⟩:=Go.Deep.trod_struct3 Tryz.underlying247 h
 obtain⟨n0,c0,e0,_⟩:=DataW.trod_int Tryz.underlying3 h0
 obtain⟨n1,c1,e1,_⟩:=DataW.trod_int Tryz.underlying73 h1
 obtain⟨n2,c2,e2,_⟩:=DataW.trod_int Tryz.underlying73 h2
 simp only[zg1,zgV]at c0 c1 c2
 subst e0 e1 e2
 simp only[Prod.mk.injEq,DataW.agg.injEq,List.cons.injEq,DataW.lit.injEq,Lit.int.injEq,and_true,true_and]at hx
 obtain⟨⟨rfl,rfl,rfl⟩,_⟩:=hx
 rw[z8P]at hl
 match cs,hl with
 | [x,y,z],_ =>
   simp at c0 c1 c2
   rw[c0,c1,c2]
theorem zhI {W:World} (h : laidMetH Tryz.prog [("omnibus/crc.kinds", Rows.laid_omnibus_crc_kinds)] W) : z1r W := by
 rw[MakeChecks.laidMetH_plain _ _ _ (by kernel_rfl)]at h
 obtain⟨ps,⟨g0,t0,cs0,f0,p0,q0,hg0,ht0,hv0,hd0,_,_⟩,_,_⟩:=h
 obtain rfl:=Option.some.inj (zi1.symm.trans hg0)
 obtain rfl:=Option.some.inj (zkr.symm.trans ht0)
 obtain⟨xs,m1,rfl,hx1,hlen,hn6,hel⟩:=DataW.trod_array Tryz.underlying261 hd0
 rw[z8P]at hel
 simp only[Prod.mk.injEq]at hx1
 obtain⟨hx1,_⟩:=hx1
 have hrow:∀i a b c p,i < 6->xs[i]? = some (.agg [.lit (.int .i64 a),.lit (.int .u64 b),.lit (.int .u64 c)],p)->cs0.toList[i*3]? = some (.int .i64 a)/\cs0.toList[i*3+1]? = some (.int .u64 b)/\cs0.toList[i*3+2]? = some (.int .u64 c):=by
  intro i a b c p hi hx
  have h1:=zfc ((hel i hi).trans hx)
  refine⟨?_,?_,?_⟩
  ·have:=congrArg (·[0]?) h1;simpa [List.getElem?_take,List.getElem?_drop]using this
  ·have:=congrArg (·[1]?) h1;simpa [List.getElem?_take,List.getElem?_drop]using this
  ·have:=congrArg (·[2]?) h1;simpa [List.getElem?_take,List.getElem?_drop]using this
 intro i v hv
 rw[World.var?_cell zi1 hv0 i]
 rw[<- Array.getElem?_toList]
 match xs,hn6,hx1,hrow with
 | [(d0,p0),(d1,p1),(d2,p2),(d3,p3),(d4,p4),(d5,p5)],_,hx1,hrow =>
   simp only[Rows.laid_omnibus_crc_kinds,List.map_cons,List.map_nil,DataW.agg.injEq,List.cons.injEq,and_true]at hx1
   obtain⟨rfl,rfl,rfl,rfl,rfl,rfl⟩:=hx1
   have r0:=hrow 0 _ _ _ _ (by decide) rfl
   have r1:=hrow 1 _ _ _ _ (by decide) rfl
   have r2:=hrow 2 _ _ _ _ (by decide) rfl
   have r3:=hrow 3 _ _ _ _ (by decide) rfl
   have r4:=hrow 4 _ _ _ _ (by decide) rfl
   have r5:=hrow 5 _ _ _ _ (by decide) rfl
   have hi:i < 18:=(List.getElem?_eq_some_iff.1 hv).1
   rcases(by omega:i=0\/i=1\/i=2\/i=3\/i=4\/i=5\/i=6\/i=7\/i=8\/i=9\/i=10\/i=11\/i=12\/i=13\/i=14\/i=15\/i=16\/i=17)with rfl | rfl | rfl | rfl | rfl | rfl | rfl | rfl | rfl | rfl | rfl | rfl | rfl | rfl | rfl | rfl | rfl | rfl
   all_goals
    simp only[zaB,List.getElem?_cons_succ,List.getElem?_cons_zero,Option.some.injEq]at hv
    subst hv
    first
    | exact r0.1 | exact r0.2.1 | exact r0.2.2 | exact r1.1 | exact r1.2.1 | exact r1.2.2 | exact r2.1 | exact r2.2.1 | exact r2.2.2
    | exact r3.1 | exact r3.2.1 | exact r3.2.2 | exact r4.1 | exact r4.2.1 | exact r4.2.2 | exact r5.1 | exact r5.2.1 | exact r5.2.2
end Go.Proofs.YtplbmlpdefpplaaGreatDoor
