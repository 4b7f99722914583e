/- What a check sum is, as a number: a kind's rule, a step, a run; and what follows from that. No program here. No conditions. Contracts of the check sums' functions: find, Size, take, each, More, Sum. Condition: the package's table of kinds holds what the program's text lays there. Contracts of More and Sum, the program's and the document's. Condition: the package's table of kinds holds what the program's text lays there. Contracts of the document's run, More and Sum. No conditions. Contracts of slices.Grow and slices.Concat at two rows of bytes that are not both empty. Condition: sizes below 2 to the 46. Contracts of Add and Fits. Condition: the package's table of kinds holds what the program's text lays there. Of rows and their check sums as numbers: a row fits just if its whole run ends at nothing; runs belong together bit by bit; what differs within a burst doesn't fit. No program here. No conditions. What a row's list of package-level variables gives: the table of kinds holds what the program's text lays there. No conditions. -/
import Derived.Test.YtipefblpppmabaaGreatDoorGb
import Derived.RegionTactic
import Derived.StillTailTactics
import Derived.OwnWalk
import Derived.Test.YtipefblpppmabaaGreatDoorGa
import Derived.Lib.AppendZeros
import Derived.Test.YtipefblpppmabaaGreatDoorRows
import Derived.LaidMore
import Derived.OpenShut
import Derived.Deep.Strs
set_option maxHeartbeats 1600000
set_option maxRecDepth 100000
namespace Go.Proofs.YtipefblpppmabaaGreatDoor
set_option linter.unusedVariables false
set_option linter.unusedSimpArgs false
open Go.RowKit
def ruleK (k:Int):Nat × Nat × Nat :=
 if k=1 then (15,17817,0) else if k=2 then (17,92251,65536) else if k=3 then (21,1058969,1048576) else if k=4 then (13,6631,1) else if k=5 then (32,4104977171,1) else (0,0,0)
def szK (k:Int):Nat:=(ruleK k).1
def polyK (k:Int):Nat:=(ruleK k).2.1
def startK (k:Int):Nat:=(ruleK k).2.2
theorem ruleK_cases (k:Int):(k=1\/k=2\/k=3\/k=4\/k=5)\/(ruleK k=(0,0,0)/\k≠1/\k≠2/\k≠3/\k≠4/\k≠5):=by
 unfold ruleK
 by_cases h1:k=1;· exact .inl (.inl h1)
 by_cases h2:k=2;· exact .inl (.inr (.inl h2))
 by_cases h3:k=3;· exact .inl (.inr (.inr (.inl h3)))
 by_cases h4:k=4;· exact .inl (.inr (.inr (.inr (.inl h4))))
 by_cases h5:k=5;· exact .inl (.inr (.inr (.inr (.inr h5))))
 exact .inr ⟨by simp[h1,h2,h3,h4,h5],h1,h2,h3,h4,h5⟩
structure KindOk (n p s:Nat):Prop where
 pos:13<=n
 le:n<=32
 poly:p < 2^n
 odd:p%2=1
 start:s < 2^n
theorem kindOk (k:Int) (h:szK k≠0):KindOk (szK k) (polyK k) (startK k):=by
 rcases ruleK_cases k with (rfl | rfl | rfl | rfl | rfl) | ⟨h1,_⟩
 ·exact⟨by decide,by decide,by decide,by decide,by decide⟩
 ·exact⟨by decide,by decide,by decide,by decide,by decide⟩
 ·exact⟨by decide,by decide,by decide,by decide,by decide⟩
 ·exact⟨by decide,by decide,by decide,by decide,by decide⟩
 ·exact⟨by decide,by decide,by decide,by decide,by decide⟩
 ·simp[szK,h1] at h
def stepC (n p s b:Nat):Nat:=if s / 2^(n - 1)=b then s*2%2^n else (s*2%2^n) ^^^ p
def runC (n p s:Nat) (l:List Nat):Nat:=l.foldl (stepC n p) s
theorem runC_snoc (n p s:Nat) (l:List Nat) (b:Nat):runC n p s (l++[b])=stepC n p (runC n p s l) b:=by simp[runC]
theorem runC_cons (n p s:Nat) (l:List Nat) (b:Nat):runC n p s (b::l)=runC n p (stepC n p s b) l:=by simp[runC]
theorem stepC_lt {n p s b:Nat} (hp:p < 2^n):stepC n p s b < 2^n:=by
 have h:s*2%2^n < 2^n:=Nat.mod_lt _ (Nat.two_pow_pos n)
 unfold stepC
 split
 ·exact h
 ·exact Nat.xor_lt_two_pow h hp
theorem runC_lt {n p:Nat} (hp:p < 2^n):∀ (l:List Nat) (s:Nat),s < 2^n->runC n p s l < 2^n:=by
 intro l
 induction l with
 | nil=>intro s h;exact h
 | cons b l ih=>intro s _;rw[runC_cons];exact ih _ (stepC_lt hp)
theorem top_le {n s:Nat} (hn:1<=n) (hs:s < 2^n):s / 2^(n - 1)<=1:=by
 have:2^n=2^(n - 1)*2:=by rw[<- Nat.pow_succ];congr 1;omega
 have h2:s / 2^(n - 1) < 2:=Nat.div_lt_of_lt_mul (by omega)
 omega
end Go.Proofs.YtipefblpppmabaaGreatDoor
namespace Go.Proofs.YtipefblpppmabaaGreatDoor
set_option linter.unusedVariables false
set_option linter.unusedSimpArgs false
open Go.RowKit
def kindsTab:List Value:=[.int .i64 0,.int .u64 0,.int .u64 0,.int .i64 15,.int .u64 17817,.int .u64 0,.int .i64 17,.int .u64 92251,.int .u64 65536,.int .i64 21,.int .u64 1058969,.int .u64 1048576,.int .i64 13,.int .u64 6631,.int .u64 1,.int .i64 32,.int .u64 4104977171,.int .u64 1]
def Kinds (w:World):Prop:=∀ i v,kindsTab[i]? = some v->w.cell? ⟨1,i,none⟩=some v
theorem Kinds.below {w w':World} (h:Kinds w) (hb:Nb w w'):Kinds w':=fun i v hv=>by
 have:=h i v hv
 rw[hb.cell (p:=⟨1,i,none⟩) (World.block_lt_of_cell? _ _ this)]
 exact this
theorem find_any (k:Int) (w:World) (h:Kinds w) :
    Calls Tryz.prog 213 #[.int .i64 k] w fun e w'=>e = .returned (.agg #[.int .i64 (szK k),.int .u64 (polyK k),.int .u64 (startK k)])/\Nb w w':=by
 by_cases h0:k < 0
 ·have e:ruleK k=(0,0,0):=by rcases ruleK_cases k with (h | h | h | h | h) | h<;>first | exact h.1 | omega
  simp only[szK,polyK,startK,e]
  go_enter Tryz.func213,Tryz.ntmps213
  go_wp2
  exact bodyPost_ret (v := .agg #[.int .i64 0,.int .u64 0,.int .u64 0]) (by simp[results,Tryz.results213,go_sem]) rfl ⟨rfl,Nb.rfl.al _⟩
 by_cases h6:6<=k
 ·have e:ruleK k=(0,0,0):=by rcases ruleK_cases k with (h | h | h | h | h) | h<;>first | exact h.1 | omega
  simp only[szK,polyK,startK,e]
  go_enter Tryz.func213,Tryz.ntmps213
  go_wp2
  exact bodyPost_ret (v := .agg #[.int .i64 0,.int .u64 0,.int .u64 0]) (by simp[results,Tryz.results213,go_sem]) rfl ⟨rfl,Nb.rfl.al _⟩
 rcases (by omega:k=0\/k=1\/k=2\/k=3\/k=4\/k=5) with rfl | rfl | rfl | rfl | rfl | rfl
 ·have c0:=h 0 _ rfl
  have c1:=h 1 _ rfl
  have c2:=h 2 _ rfl
  have hlt:1 < w.heap.size:=World.block_lt_of_cell? _ _ c0
  clear h h0 h6
  go_enter Tryz.func213,Tryz.ntmps213
  go_wp2
  exact bodyPost_ret (v := .agg #[.int .i64 (szK 0),.int .u64 (polyK 0),.int .u64 (startK 0)]) (by simp[results,Tryz.results213,go_sem];exact⟨rfl,rfl,rfl⟩) rfl ⟨rfl,Nb.rfl.al _⟩
 ·have c0:=h 3 _ rfl
  have c1:=h 4 _ rfl
  have c2:=h 5 _ rfl
  have hlt:1 < w.heap.size:=World.block_lt_of_cell? _ _ c0
  clear h h0 h6
  go_enter Tryz.func213,Tryz.ntmps213
  go_wp2
  exact bodyPost_ret (v := .agg #[.int .i64 (szK 1),.int .u64 (polyK 1),.int .u64 (startK 1)]) (by simp[results,Tryz.results213,go_sem];exact⟨rfl,rfl,rfl⟩) rfl ⟨rfl,Nb.rfl.al _⟩
 ·have c0:=h 6 _ rfl
  have c1:=h 7 _ rfl
  have c2:=h 8 _ rfl
  have hlt:1 < w.heap.size:=World.block_lt_of_cell? _ _ c0
  clear h h0 h6
  go_enter Tryz.func213,Tryz.ntmps213
  go_wp2
  exact bodyPost_ret (v := .agg #[.int .i64 (szK 2),.int .u64 (polyK 2),.int .u64 (startK 2)]) (by simp[results,Tryz.results213,go_sem];exact⟨rfl,rfl,rfl⟩) rfl ⟨rfl,Nb.rfl.al _⟩
 ·have c0:=h 9 _ rfl
  have c1:=h 10 _ rfl
  have c2:=h 11 _ rfl
  have hlt:1 < w.heap.size:=World.block_lt_of_cell? _ _ c0
  clear h h0 h6
  go_enter Tryz.func213,Tryz.ntmps213
  go_wp2
  exact bodyPost_ret (v := .agg #[.int .i64 (szK 3),.int .u64 (polyK 3),.int .u64 (startK 3)]) (by simp[results,Tryz.results213,go_sem];exact⟨rfl,rfl,rfl⟩) rfl ⟨rfl,Nb.rfl.al _⟩
 ·have c0:=h 12 _ rfl
  have c1:=h 13 _ rfl
  have c2:=h 14 _ rfl
  have hlt:1 < w.heap.size:=World.block_lt_of_cell? _ _ c0
  clear h h0 h6
  go_enter Tryz.func213,Tryz.ntmps213
  go_wp2
  exact bodyPost_ret (v := .agg #[.int .i64 (szK 4),.int .u64 (polyK 4),.int .u64 (startK 4)]) (by simp[results,Tryz.results213,go_sem];exact⟨rfl,rfl,rfl⟩) rfl ⟨rfl,Nb.rfl.al _⟩
 ·have c0:=h 15 _ rfl
  have c1:=h 16 _ rfl
  have c2:=h 17 _ rfl
  have hlt:1 < w.heap.size:=World.block_lt_of_cell? _ _ c0
  clear h h0 h6
  go_enter Tryz.func213,Tryz.ntmps213
  go_wp2
  exact bodyPost_ret (v := .agg #[.int .i64 (szK 5),.int .u64 (polyK 5),.int .u64 (startK 5)]) (by simp[results,Tryz.results213,go_sem];exact⟨rfl,rfl,rfl⟩) rfl ⟨rfl,Nb.rfl.al _⟩
theorem run_rule0 (a b c:Value) (w:World):(Instr.field 231 (.agg #[a,b,c]) 0).run Tryz.prog w = .ok a w:=by kernel_rfl
theorem run_rule2 (a b c:Value) (w:World):(Instr.field 231 (.agg #[a,b,c]) 2).run Tryz.prog w = .ok c w:=by kernel_rfl
theorem size_any (k:Int) (w:World) (h:Kinds w) :
    Calls Tryz.prog 189 #[.int .i64 k] w fun e w'=>e = .returned (.int .i64 (szK k))/\Nb w w':=by
 have hf:=@run_rule0
 go_enter Tryz.func189,Tryz.ntmps189
 go_wp2_with fail
 refine (find_any k _ h).mono ?_
 rintro e w1 ⟨rfl,hnb⟩
 go_wp2
 go_ret
 exact⟨rfl,hnb⟩
theorem Blk.drewN {w:World} {R:Nat} {cs:Array Value} {t:TypeId} (h:Blk w R cs t) (n:Nat):Blk (w.drewN n) R cs t:=h
theorem take_arith (n s:Nat) (h32:n<=32) (hs:s < 2^n) :
    bits BinOp.and IntKind.u64 ((s:Int)*2) (IntKind.u64.wrap (IntKind.u64.wrap (2^n) - 1))=((s*2%2^n:Nat):Int):=by
 have h1:(2:Nat)^n<=4294967296:=Nat.pow_le_pow_right (by omega) h32
 have h0:0 < (2:Nat)^n:=Nat.two_pow_pos n
 have h2:=bits_and_u64_nat (s*2) (2^n - 1) (by omega) (by omega)
 rw[Nat.and_two_pow_sub_one_eq_mod] at h2
 have h3:(2:Int)^n=((2^n:Nat):Int):=by push_cast;rfl
 have e2:IntKind.u64.wrap (IntKind.u64.wrap (2^n) - 1)=((2^n - 1:Nat):Int):=by
  rw[h3,IntKind.wrap_u64,IntKind.wrap_u64]
  omega
 rw[<- h2,e2]
 congr 1
theorem take_any (R n p s0 s b:Nat) (w:World) (h:Blk w R #[.int .i64 n,.int .u64 p,.int .u64 s0,.int .u64 s] 242) (hn:1<=n) (h32:n<=32) (hp:p < 2^n) (hs:s < 2^n) (hb:b<=1) :
    Calls Tryz.prog 224 #[.pointer (some ⟨R,0,none⟩),.int .u8 b] w fun e w'=>e = .returned (.tuple #[])/\Blk w' R #[.int .i64 n,.int .u64 p,.int .u64 s0,.int .u64 (stepC n p s b)] 242/\Kp (·=R) w w':=by
 have c0:w.cell? ⟨R,0,none⟩=some (.int .i64 n):=h.cell 0
 have c1:w.cell? ⟨R,1,none⟩=some (.int .u64 p):=h.cell 1
 have c3:w.cell? ⟨R,3,none⟩=some (.int .u64 s):=h.cell 3
 have f3:=h.frozen 3
 have hR:=h.lt
 obtain⟨q,hq⟩:∃ q,q=s / 2^(n - 1):=⟨_,rfl⟩
 obtain⟨m,hm⟩:∃ m,m=s*2%2^n:=⟨_,rfl⟩
 have HS:Hid (stepC n p s b=if q=b then m else m ^^^ p):=Lib.hid (by rw[hq,hm];rfl)
 have HE:Hid (bits BinOp.and IntKind.u64 ((s:Int)*2) (IntKind.u64.wrap (IntKind.u64.wrap (2^n) - 1))=(m:Int)):=Lib.hid (by rw[hm];exact take_arith n s h32 hs)
 have H1:Hid ((s:Int) / 2^(n - 1)=(q:Int)):=Lib.hid (by rw[hq];push_cast;rfl)
 have HB:=Lib.hid h
 have hm2:m < 2^n:=by rw[hm];exact Nat.mod_lt _ (Nat.two_pow_pos n)
 have h64:(2:Nat)^n<=4294967296:=Nat.pow_le_pow_right (by omega) h32
 have hpb:p < 18446744073709551616:=by omega
 have hmb:m < 18446744073709551616:=by omega
 have hsb:s < 4294967296:=by omega
 have HX:=Lib.hid (bits_xor_u64_nat m p hmb hpb)
 have hq1:q<=1:=by rw[hq];exact top_le hn hs
 clear h hq hm hm2 h64 hp hs
 go_enter Tryz.func224,Tryz.ntmps224
 go_wp2
 go_quiet (fail)
 go_wp2
 go_region
 rw[HE.out,H1.out]
 by_cases hqb:q=b
 ·have hd:((q:Int) != (b:Int))=false:=by rw[bne_eq_false_iff_eq];omega
  have HS2:=Lib.hid (HS.out.trans (if_pos hqb))
  clear hqb
  go_wp2
  go_end0
  rw[HS2.out]
  exact⟨rfl,(HB.out.drewN _).set 3 _,(Kp.ofNb (Nb.drewN _ _)).tr (Kp.set (F:=(·=R)) rfl) (fun _ h => .inl h)⟩
 ·have hd:((q:Int) != (b:Int))=true:=by rw[bne_iff_ne];omega
  have HS2:=Lib.hid (HS.out.trans (if_neg hqb))
  clear hqb
  go_wp2
  go_region
  go_wp2
  go_end0
  rw[HS2.out]
  refine⟨rfl,?_,?_⟩
  ·have:=(((HB.out.drewN (nq+1)).set 3 (.int .u64 m)).set 3 (.int .u64 (m ^^^ p:Nat))).drewN 1
   rw[HX.out]
   exact this
  ·exact (((Kp.ofNb (F:=(·=R)) (Nb.drewN _ _)).tr (Kp.set (F:=(·=R)) rfl) (fun _ h => .inl h)).tr (Kp.set (F:=(·=R)) rfl) (fun _ h => .inl h)).tr (Kp.ofNb (Nb.drewN _ 1)) (fun _ h => .inl h)
theorem crceach_any (F:Nat) (p:Value) (a:Option Addr) (cap:Nat) (l:List Nat) (I:Nat->World->Prop) (w:World) (hL:l.length<=9223372036854775807) (h0:I 0 w)
    (hbs:∀ k w,I k w->Bs w a cap l)
    (hcf:∀ args w,(callFunc F args).run Tryz.prog w = .ok (.enter F args) w)
    (hstep:∀ k x w,I k w->l[k]? = some x->Calls Tryz.prog F #[p,.int .u8 (x:Int)] w fun e w'=>e = .returned (.tuple #[])/\I (k+1) w') :
    Calls Tryz.prog 223 #[.slice a l.length cap,.func (.func F) #[p] #[]] w fun e w'=>e = .returned (.tuple #[])/\I l.length w':=by
 have HB:=Lib.hid hbs
 have HS:=Lib.hid hstep
 clear hbs hstep
 go_enter Tryz.func223,Tryz.ntmps223
 go_wp2
 go_loopw [8] (fun i wr=>∃ k:Nat,k<=l.length/\i = .int .i64 k/\I k wr) (fun i _=>l.length - (intOf i).toNat)
 case atStart=>exact⟨0,Nat.zero_le _,rfl,h0⟩
 case round =>
  obtain⟨k,hk,rfl,hI⟩:=hrel
  by_cases hlt:k < l.length
  ·obtain⟨b,o,rfl,hc⟩:=(HB.out k wr hI).hcells (by omega)
   obtain⟨x,hx⟩:∃ x,l[k]? = some x:=⟨l[k],by simp[hlt]⟩
   have c1:=hc k hlt
   rw[show l.getD k 0=x from by simp[List.getD,hx]] at c1
   have HX:=Lib.hid hx
   clear hc hx
   go_wp2_with fail
   refine (HS.out k x wr hI HX.out).mono ?_
   rintro e w' ⟨rfl,hI'⟩
   go_wp2
   go_roundw
   case rel=>exact⟨k+1,by omega,by go_num,hI'⟩
   case measure=>simp[intOf];omega
  ·obtain rfl:k=l.length:=by omega
   go_wp2
   go_end0
   exact⟨rfl,hI⟩
end Go.Proofs.YtipefblpppmabaaGreatDoor
namespace Go.Proofs.YtipefblpppmabaaGreatDoor
set_option linter.unusedVariables false
set_option linter.unusedSimpArgs false
open Go.RowKit
def moreOk (k:Int) (s:Nat) (l:List Nat):Bool:=decide (szK k≠0)&&decide (s < 2^szK k)&&chk l
def moreN (k:Int) (s:Nat) (l:List Nat):Nat:=if moreOk k s l then runC (szK k) (polyK k) s l else 0
def moreE (k:Int) (s:Nat) (l:List Nat):Nat:=if moreOk k s l then 0 else 2
theorem more_ok (k:Int) (s:Nat) (a:Option Addr) (cap:Nat) (l:List Nat) (w:World) (hk:Kinds w) (h:Bs w a cap l) (hz:szK k≠0) (hs:s < 2^szK k) (hc:chk l=true) :
    Calls Tryz.prog 212 #[.int .i64 k,.int .u64 s,.slice a l.length cap] w fun e w'=>e = .returned (.tuple #[.int .u64 (runC (szK k) (polyK k) s l),.int .i64 0])/\Nb w w':=by
 have hL:=h.len
 have H:=Lib.hid h
 have HC:=Lib.hid hc
 have hbit:=Lib.hid (chk_bit hc)
 obtain⟨n1,n2,n3,_,_⟩:=kindOk k hz
 have hd1:((szK k:Int)==0)=false:=by rw[beq_eq_false_iff_ne];omega
 have hd2:((s:Int) / 2^szK k != 0)=false:=by
  have e:((s:Int) / 2^szK k)=((s / 2^szK k:Nat):Int):=by push_cast;rfl
  rw[e,Nat.div_eq_of_lt hs];rfl
 have HS:=Lib.hid hs
 have N3:=Lib.hid n3
 have hmf:∀ (fn:Fn) (first cap:Array Value) (w:World),(Instr.makeFunc fn first cap).run Tryz.prog w = .ok (.func fn first cap) w:=fun _ _ _ _=>rfl
 have hs64:s < 18446744073709551616:=by
  have:(2:Nat)^szK k<=4294967296:=Nat.pow_le_pow_right (by omega) n2
  omega
 clear h hc hs n3
 go_enter Tryz.func212,Tryz.ntmps212
 go_wp2_with fail
 refine (find_any k w hk).mono ?_
 rintro e w1 ⟨rfl,hnb⟩
 go_wp2_with fail
 refine (check_ok a cap l _ (H.out.below (hnb.al _)) HC.out).mono ?_
 rintro e w2 ⟨rfl,rfl⟩
 go_wp2_with fail
 refine (crceach_any 224 (.pointer (some ⟨w1.heap.size,0,none⟩)) a cap l (fun j wr=>Blk wr w1.heap.size #[.int .i64 (szK k),.int .u64 (polyK k),.int .u64 (startK k),.int .u64 (runC (szK k) (polyK k) s (l.take j))] 242/\Nb w wr) _ hL ⟨Blk.new _ _ _,hnb.al _⟩ (fun j wr hI=>H.out.below hI.2) (hcf _ _ Tryz.func224 (by rfl) (by decide +kernel)) ?_).mono ?_
 ·rintro j x wr ⟨hb,hn⟩ hx
  refine (take_any w1.heap.size (szK k) (polyK k) (startK k) _ x wr hb (by omega) n2 N3.out (runC_lt N3.out _ _ HS.out) (hbit.out x (List.mem_of_getElem? hx))).mono ?_
  rintro e w' ⟨rfl,hb',hk'⟩
  exact⟨rfl,by rw[take_snoc' hx,runC_snoc];exact hb',hn.trans (hk'.toBelow hn.size (by rintro k rfl;exact hnb.size))⟩
 ·rintro e w2 ⟨rfl,hb,hn⟩
  rw[List.take_of_length_le (Nat.le_refl _)] at hb
  have c0:w2.cell? ⟨w1.heap.size,3,none⟩=_:=hb.cell 3
  clear hb
  go_wp2
  go_ret2
  exact⟨rfl,hn⟩
theorem more_bad (k:Int) (s:Nat) (a:Option Addr) (cap:Nat) (l:List Nat) (w:World) (hk:Kinds w) (h:Bs w a cap l) (hs64:s < 18446744073709551616) (hm:moreOk k s l=false) :
    Calls Tryz.prog 212 #[.int .i64 k,.int .u64 s,.slice a l.length cap] w fun e w'=>e = .returned (.tuple #[.int .u64 0,.int .i64 2])/\Nb w w':=by
 have hL:=h.len
 by_cases hz:szK k=0
 ·have hd1:((szK k:Int)==0)=true:=by rw[beq_iff_eq];omega
  clear hm
  go_enter Tryz.func212,Tryz.ntmps212
  go_wp2_with fail
  refine (find_any k w hk).mono ?_
  rintro e w1 ⟨rfl,hnb⟩
  go_wp2
  go_ret2
  exact⟨rfl,hnb.al _⟩
 ·obtain⟨n1,n2,_,_,_⟩:=kindOk k hz
  have hd1:((szK k:Int)==0)=false:=by rw[beq_eq_false_iff_ne];omega
  have e:((s:Int) / 2^szK k)=((s / 2^szK k:Nat):Int):=by push_cast;rfl
  by_cases hs:s < 2^szK k
  ·have hc:chk l=false:=by simpa [moreOk,hz,hs] using hm
   have H:=Lib.hid h
   have HC:=Lib.hid hc
   have hd2:((s:Int) / 2^szK k != 0)=false:=by rw[e,Nat.div_eq_of_lt hs];rfl
   clear h hc hm e hs
   go_enter Tryz.func212,Tryz.ntmps212
   go_wp2_with fail
   refine (find_any k w hk).mono ?_
   rintro e w1 ⟨rfl,hnb⟩
   go_wp2_with fail
   refine (check_bad a cap l _ (H.out.below (hnb.al _)) HC.out).mono ?_
   rintro e w2 ⟨rfl,rfl⟩
   go_wp2
   go_ret2
   exact⟨rfl,hnb.al _⟩
  ·have hd2:((s:Int) / 2^szK k != 0)=true:=by
    rw[e,bne_iff_ne]
    have:0 < s / 2^szK k:=Nat.div_pos (by omega) (Nat.two_pow_pos _)
    omega
   clear hm e hs
   go_enter Tryz.func212,Tryz.ntmps212
   go_wp2_with fail
   refine (find_any k w hk).mono ?_
   rintro e w1 ⟨rfl,hnb⟩
   go_wp2
   go_ret2
   exact⟨rfl,hnb.al _⟩
theorem more_u (k:Int) (s:Nat) (a:Option Addr) (cap:Nat) (l:List Nat) (w:World) (hk:Kinds w) (h:Bs w a cap l) (hs64:s < 18446744073709551616) :
    Calls Tryz.prog 212 #[.int .i64 k,.int .u64 s,.slice a l.length cap] w fun e w'=>e = .returned (.tuple #[.int .u64 (moreN k s l),.int .i64 (moreE k s l)])/\Nb w w':=by
 cases hm:moreOk k s l with
 | true =>
   simp only[moreN,moreE,hm,if_true]
   simp only[moreOk,Bool.and_eq_true,decide_eq_true_eq] at hm
   exact more_ok k s a cap l w hk h hm.1.1 hm.1.2 hm.2
 | false =>
   simp only[moreN,moreE,hm,Bool.false_eq_true,if_false]
   exact more_bad k s a cap l w hk h hs64 hm
theorem startK_lt (k:Int):startK k < 18446744073709551616:=by
 rcases ruleK_cases k with (rfl | rfl | rfl | rfl | rfl) | ⟨h1,_⟩
 iterate 5 decide
 simp[startK,h1]
def sumN (k:Int) (l:List Nat):Nat:=moreN k (startK k) l
def sumE (k:Int) (l:List Nat):Nat:=moreE k (startK k) l
theorem sum_u (k:Int) (a:Option Addr) (cap:Nat) (l:List Nat) (w:World) (hk:Kinds w) (h:Bs w a cap l) :
    Calls Tryz.prog 188 #[.int .i64 k,.slice a l.length cap] w fun e w'=>e = .returned (.tuple #[.int .u64 (sumN k l),.int .i64 (sumE k l)])/\Nb w w':=by
 have hf:=@run_rule2
 have H:=Lib.hid h
 have HK:=Lib.hid hk
 have HS:=Lib.hid (startK_lt k)
 clear h hk
 go_enter Tryz.func188,Tryz.ntmps188
 go_wp2_with fail
 refine (find_any k w HK.out).mono ?_
 rintro e w1 ⟨rfl,hnb⟩
 go_wp2_with fail
 refine (more_u k (startK k) a cap l _ (HK.out.below hnb) (H.out.below hnb) HS.out).mono ?_
 rintro e w2 ⟨rfl,hn2⟩
 go_wp2
 go_ret2
 exact⟨rfl,hnb.tr hn2⟩
theorem of_any (k:Int) (w:World) :
    Calls Tryz.prog 110 #[.int .i64 k] w fun e w'=>e = .returned (.tuple #[.int .i64 (szK k),.int .u64 (polyK k),.int .u64 (startK k)])/\w=w':=by
 rcases ruleK_cases k with (rfl | rfl | rfl | rfl | rfl) | ⟨h1,g1,g2,g3,g4,g5⟩
 iterate 5
  ·go_enter Tryz.func110,Tryz.ntmps110
   go_wp2
   go_ret3
   exact⟨rfl,rfl⟩
 simp only[szK,polyK,startK,h1]
 have d1:(k==1)=false:=by simpa using g1
 have d2:(k==2)=false:=by simpa using g2
 have d3:(k==3)=false:=by simpa using g3
 have d4:(k==4)=false:=by simpa using g4
 have d5:(k==5)=false:=by simpa using g5
 go_enter Tryz.func110,Tryz.ntmps110
 go_wp2
 go_ret3
 exact⟨rfl,rfl⟩
end Go.Proofs.YtipefblpppmabaaGreatDoor
namespace Go.Proofs.YtipefblpppmabaaGreatDoor
set_option linter.unusedVariables false
set_option linter.unusedSimpArgs false
open Go.RowKit
theorem refrun_crc (k:Int) (s:Nat) (a:Option Addr) (cap:Nat) (l:List Nat) (w:World) (h:Bs w a cap l) (hz:szK k≠0) (hs:s < 2^szK k) (hb:∀ x∈l,x<=1) :
    Calls Tryz.prog 180 #[.int .i64 k,.int .u64 s,.slice a l.length cap] w fun e w'=>e = .returned (.int .u64 (runC (szK k) (polyK k) s l))/\Nb w w':=by
 have hL:=h.len
 have H:=Lib.hid h
 have hbit:=Lib.hid hb
 obtain⟨n1,n2,n3,_,_⟩:=kindOk k hz
 have HS:=Lib.hid hs
 have N3:=Lib.hid n3
 clear h hs n3 hb
 go_enter Tryz.func180,Tryz.ntmps180
 go_wp2_with fail
 refine (of_any k w).mono ?_
 rintro e w1 ⟨rfl,rfl⟩
 go_wp2
 go_loop [1,21] (fun z i=>∃ j:Nat,j<=l.length/\i = .int .i64 j/\z = .int .u64 (runC (szK k) (polyK k) s (l.take j))) (fun _ i=>l.length - (intOf i).toNat)
 case atStart=>exact⟨0,Nat.zero_le _,rfl,rfl⟩
 case round =>
  obtain⟨j,hj,rfl,rfl⟩:=hrel
  by_cases hlt:j < l.length
  ·obtain⟨b,o,rfl,hcl⟩:=H.out.hcells (by omega)
   obtain⟨x,hx⟩:∃ x,l[j]? = some x:=⟨l[j],by simp[hlt]⟩
   have c1:=hcl j hlt
   rw[show l.getD j 0=x from by simp[List.getD,hx]] at c1
   have hx1:x<=1:=hbit.out x (List.mem_of_getElem? hx)
   obtain⟨S,hS⟩:∃ S,S=runC (szK k) (polyK k) s (l.take j):=⟨_,rfl⟩
   have hSl:S < 2^szK k:=by rw[hS];exact runC_lt N3.out _ _ HS.out
   have HT:Hid (runC (szK k) (polyK k) s (l.take (j+1))=stepC (szK k) (polyK k) S x):=Lib.hid (by rw[take_snoc' hx,runC_snoc,hS])
   rw[<- hS]
   obtain⟨q,hq⟩:∃ q,q=S / 2^(szK k - 1):=⟨_,rfl⟩
   obtain⟨m,hm⟩:∃ m,m=S*2%2^szK k:=⟨_,rfl⟩
   have HZ:Hid (stepC (szK k) (polyK k) S x=if q=x then m else m ^^^ polyK k):=Lib.hid (by rw[hq,hm];rfl)
   have H1:Hid ((S:Int) / 2^(szK k - 1)=(q:Int)):=Lib.hid (by rw[hq];push_cast;rfl)
   have hm2:m < 2^szK k:=by rw[hm];exact Nat.mod_lt _ (Nat.two_pow_pos _)
   have h64:(2:Nat)^szK k<=4294967296:=Nat.pow_le_pow_right (by omega) n2
   have hpb:polyK k < 18446744073709551616:=by have:=N3.out;omega
   have hmb:m < 18446744073709551616:=by omega
   have hSb:S < 4294967296:=by omega
   have HX:=Lib.hid (bits_xor_u64_nat m (polyK k) hmb hpb)
   have hq1:q<=1:=by rw[hq];exact top_le (by omega) hSl
   clear hcl hx hS hq hSl
   obtain⟨P,hP⟩:∃ P,P=2^szK k:=⟨_,rfl⟩
   have hP0:0 < P:=by rw[hP];exact Nat.two_pow_pos _
   have hW:IntKind.u64.wrap (2^szK k)=(P:Int):=by
    have e:(2:Int)^szK k=((2^szK k:Nat):Int):=by push_cast;rfl
    rw[e,IntKind.wrap_u64,hP]
    omega
   have HM:Hid ((S:Int)*2%(P:Int)=(m:Int)):=Lib.hid (by rw[hm,hP];push_cast;rfl)
   have hqt:((S:Int) / 2^(szK k - 1)).tmod 2=(q:Int):=by rw[H1.out];rcases (by omega:q=0\/q=1) with rfl | rfl<;>rfl
   have HJ:∀ z:Int,z=((runC (szK k) (polyK k) s (l.take (j+1)):Nat):Int)->(∃ j1,j1<=l.length/\Value.int IntKind.i64 ((j:Int)+1)=Value.int IntKind.i64 (j1:Int)/\Value.int .u64 z=Value.int .u64 (runC (szK k) (polyK k) s (l.take j1))):=fun z hz=>⟨j+1,by omega,by simp,by rw[hz]⟩
   have HJ:=Lib.hid HJ
   clear hm hP h64 hm2
   by_cases hqx:q=x
   ·have hd:(((S:Int) / 2^(szK k - 1)).tmod 2 != (x:Int))=false:=by rw[hqt,bne_eq_false_iff_eq];omega
    have HZ2:=Lib.hid (HZ.out.trans (if_pos hqx))
    clear hqx hqt
    go_wp2
    go_round
    case rel=>exact HJ.out _ (by rw[HT.out,HZ2.out,HM.out])
    case measure=>simp[intOf];omega
   ·have hd:(((S:Int) / 2^(szK k - 1)).tmod 2 != (x:Int))=true:=by rw[hqt,bne_iff_ne];omega
    have HZ2:=Lib.hid (HZ.out.trans (if_neg hqx))
    clear hqx hqt
    go_wp2
    go_round
    case rel=>exact HJ.out _ (by rw[HT.out,HZ2.out,HM.out,HX.out])
    case measure=>simp[intOf];omega
  ·obtain rfl:j=l.length:=by omega
   rw[List.take_of_length_le (Nat.le_refl _)]
   go_wp2
   go_ret
   exact⟨rfl,Nb.rfl⟩
theorem refmore_u (k:Int) (s:Nat) (a:Option Addr) (cap:Nat) (l:List Nat) (w:World) (h:Bs w a cap l) (hs64:s < 18446744073709551616) :
    Calls Tryz.prog 156 #[.int .i64 k,.int .u64 s,.slice a l.length cap] w fun e w'=>e = .returned (.tuple #[.int .u64 (moreN k s l),.int .i64 (moreE k s l)])/\Nb w w':=by
 have hL:=h.len
 have H:=Lib.hid h
 clear h
 by_cases hz:szK k=0
 ·have hm:moreOk k s l=false:=by simp[moreOk,hz]
  simp only[moreN,moreE,hm,Bool.false_eq_true,if_false]
  have hd1:((szK k:Int)==0)=true:=by rw[beq_iff_eq];omega
  clear hm
  go_enter Tryz.func156,Tryz.ntmps156
  go_wp2_with fail
  refine (of_any k w).mono ?_
  rintro e w1 ⟨rfl,rfl⟩
  go_wp2
  go_ret2
  exact⟨rfl,Nb.rfl⟩
 ·obtain⟨n1,n2,_,_,_⟩:=kindOk k hz
  have hd1:((szK k:Int)==0)=false:=by rw[beq_eq_false_iff_ne];omega
  obtain⟨P,hP⟩:∃ P,P=2^szK k:=⟨_,rfl⟩
  have h64:P<=4294967296:=by rw[hP];exact Nat.pow_le_pow_right (by omega) n2
  have hW:IntKind.u64.wrap (2^szK k)=(P:Int):=by
   have e:(2:Int)^szK k=((2^szK k:Nat):Int):=by push_cast;rfl
   rw[e,IntKind.wrap_u64,hP]
   omega
  cases hc:chk l with
  | false =>
    have hm:moreOk k s l=false:=by simp[moreOk,hc]
    simp only[moreN,moreE,hm,Bool.false_eq_true,if_false]
    have HC:=Lib.hid hc
    clear hm hc hP
    go_enter Tryz.func156,Tryz.ntmps156
    go_wp2_with fail
    refine (of_any k w).mono ?_
    rintro e w1 ⟨rfl,rfl⟩
    go_wp2_with fail
    refine (refcheck_bad a cap l _ H.out HC.out).mono ?_
    rintro e w1 ⟨rfl,rfl⟩
    go_wp2
    go_ret2
    exact⟨rfl,Nb.rfl⟩
  | true =>
    have HC:=Lib.hid hc
    by_cases hs:s < 2^szK k
    ·have hm:moreOk k s l=true:=by simp[moreOk,hc,hz,hs]
     simp only[moreN,moreE,hm,if_true]
     have HS:=Lib.hid hs
     have hd2:s < P:=by rw[hP];exact hs
     have hd3:decide (P<=s)=false:=by rw[decide_eq_false_iff_not];omega
     clear hm hc hP hs
     go_enter Tryz.func156,Tryz.ntmps156
     go_wp2_with fail
     refine (of_any k w).mono ?_
     rintro e w1 ⟨rfl,rfl⟩
     go_wp2_with fail
     refine (refcheck_ok a cap l _ H.out HC.out).mono ?_
     rintro e w1 ⟨rfl,rfl⟩
     go_wp2_with fail
     refine (refrun_crc k s a cap l w H.out hz HS.out (chk_bit HC.out)).mono ?_
     rintro e w1 ⟨rfl,hnb⟩
     go_wp2
     go_ret2
     exact⟨rfl,hnb⟩
    ·have hm:moreOk k s l=false:=by simp[moreOk,hs]
     simp only[moreN,moreE,hm,Bool.false_eq_true,if_false]
     have hd2:P<=s:=by omega
     have hd3:decide (P<=s)=true:=by rw[decide_eq_true_eq];omega
     clear hm hc hP hs
     go_enter Tryz.func156,Tryz.ntmps156
     go_wp2_with fail
     refine (of_any k w).mono ?_
     rintro e w1 ⟨rfl,rfl⟩
     go_wp2_with fail
     refine (refcheck_ok a cap l _ H.out HC.out).mono ?_
     rintro e w1 ⟨rfl,rfl⟩
     go_wp2
     go_ret2
     exact⟨rfl,Nb.rfl⟩
theorem refsum_u (k:Int) (a:Option Addr) (cap:Nat) (l:List Nat) (w:World) (h:Bs w a cap l) :
    Calls Tryz.prog 139 #[.int .i64 k,.slice a l.length cap] w fun e w'=>e = .returned (.tuple #[.int .u64 (sumN k l),.int .i64 (sumE k l)])/\Nb w w':=by
 have H:=Lib.hid h
 have HS:=Lib.hid (startK_lt k)
 clear h
 go_enter Tryz.func139,Tryz.ntmps139
 go_wp2_with fail
 refine (of_any k w).mono ?_
 rintro e w1 ⟨rfl,rfl⟩
 go_wp2_with fail
 refine (refmore_u k (startK k) a cap l _ H.out HS.out).mono ?_
 rintro e w2 ⟨rfl,hn2⟩
 go_wp2
 go_ret2
 exact⟨rfl,hn2⟩
end Go.Proofs.YtipefblpppmabaaGreatDoor
namespace Go.Proofs.YtipefblpppmabaaGreatDoor
set_option linter.unusedVariables false
set_option linter.unusedSimpArgs false
open Go.RowKit
theorem grow_any (n:Nat) (w:World) (h0:0 < n) (hn:n<=70368744177664) :
    Calls Tryz.prog 171 #[.slice none 0 0,.int .i64 n] w fun e w'=>(∃ g c,e = .returned (.slice (some ⟨g,0,none⟩) 0 c)/\OwnB w' (.slice (some ⟨g,0,none⟩) 0 c) []/\w.heap.size<=g)/\Nb w w':=by
 obtain⟨i0,hi,hz0,hz1,hz2⟩:=info_parts infoU8
 have hge:=grownCap_ge w n 0 5
 have hle:=grownCap_le_maxLen w n 0 5 (by unfold maxLen;omega)
 have hrz:∀ ty,_:=fun ty=>Lib.run_append_nil_zeros (P:=Tryz.prog) w 32 3 ty 5 i0 (.int .u8 0) .i64 .i64 Tryz.underlying32 Tryz.underlying3 hi hz0 n h0 (by omega) (by omega) (by rw[hz2];omega)
 have hown:OwnB (w.drew.alloc (.cells (Builtin.zeroCells (Value.int .u8 0).cells n++Builtin.zeroCells (Value.int .u8 0).cells (grownCap w n 0 5 - n)) 5)) (.slice (some ⟨w.heap.size,0,none⟩) 0 (grownCap w n 0 5)) []:=by
  refine⟨⟨by simp,.inr ⟨w.heap.size,grownCap w n 0 5,_,by simp,Nat.zero_le _,heap_alloc_new w.drew _,Nat.zero_le _,hle,?_,by simp⟩⟩,by simp⟩
  simp[Builtin.zeroCells,Value.cells]
  omega
 have HO:=Lib.hid hown
 have hmx:grownCap w n 0 5<=9223372036854775807:=by unfold maxLen at hle;omega
 obtain⟨G,hG⟩:∃ G,G=grownCap w n 0 5:=⟨_,rfl⟩
 rw[<- hG] at hrz hge hmx HO
 clear hown hle hG hi hz0 hz1 hz2
 go_enter Tryz.func171,Tryz.ntmps171
 go_wp2_with (at_builtin;refine Lib.wpList_append_run _ rfl _ _ _ _ rfl _ _ rfl rfl _ _ (hrz _) ?_)
 go_wp2
 go_ret
 exact⟨⟨_,_,rfl,HO.out,Nat.le_refl _⟩,(show Nb w w.drew from Nb.drewN w 1).al _⟩
theorem concat_any (b o:Nat) (a1 a2:Option Addr) (c1 c2:Nat) (l1 l2:List Nat) (w:World) (d1:w.cell? ⟨b,o,none⟩=some (.slice a1 l1.length c1)) (d2:w.cell? ⟨b,o+1,none⟩=some (.slice a2 l2.length c2))
    (h1:Bs w a1 c1 l1) (h2:Bs w a2 c2 l2) (h2n:0 < l2.length) (hn1:a1=none->c1=0) (hl1:l1.length<=1000000) (hl2:l2.length<=1000000) :
    Calls Tryz.prog 152 #[.slice (some ⟨b,o,none⟩) 2 2] w fun e w'=>(∃ a c,e = .returned (.slice a (l1++l2).length c)/\Fresh w w' (.slice a (l1++l2).length c) (l1++l2))/\Nb w w':=by
 have hb:=World.block_lt_of_cell? _ _ d1
 simp only at hb
 go_enter Tryz.func152,Tryz.ntmps152
 go_wp2
 go_loop [3,11] (fun s i=>(i = .int .i64 0/\s = .int .i64 0)\/(i = .int .i64 1/\s = .int .i64 (l1.length:Int))\/(i = .int .i64 2/\s = .int .i64 ((l1.length:Int)+(l2.length:Int)))) (fun _ i=>2 - (intOf i).toNat)
 case atStart=>exact .inl ⟨rfl,rfl⟩
 case round =>
  rcases hrel with ⟨rfl,rfl⟩ | ⟨rfl,rfl⟩ | ⟨rfl,rfl⟩
  ·go_wp2
   go_round
   case rel=>exact .inr (.inl ⟨rfl,rfl⟩)
   case measure=>simp[intOf]
  ·go_wp2
   go_round
   case rel=>exact .inr (.inr ⟨rfl,rfl⟩)
   case measure=>simp[intOf]
  ·have H1:=Lib.hid h1
   have H2:=Lib.hid h2
   have D1:=Lib.hid d1
   have D2:=Lib.hid d2
   clear h1 h2 d1 d2
   go_wp2_with fail
   have hgr:=grow_any (l1.length+l2.length) w (by omega) (by omega)
   rw[show ((l1.length+l2.length:Nat):Int)=(l1.length:Int)+(l2.length:Int) from by omega] at hgr
   refine hgr.mono ?_
   rintro e w1 ⟨⟨g,c,rfl,ho,hg⟩,hnb⟩
   clear hgr
   go_wp2
   go_loopw [6,27] (fun v i wr=>((i = .int .i64 0/\Fresh w wr v [])\/(i = .int .i64 1/\Fresh w wr v l1)\/(i = .int .i64 2/\Fresh w wr v (l1++l2)))/\Nb w wr) (fun _ i _=>2 - (intOf i).toNat)
   case atStart=>exact⟨.inl ⟨rfl,ho,by simpa [Value.ownBlock] using hg⟩,hnb⟩
   case round =>
    obtain⟨hrel,hnb2⟩:=hrel
    clear ho hg hnb
    have e1:wr.cell? ⟨b,o,none⟩=some (.slice a1 l1.length c1):=(hnb2.cell (p:=⟨b,o,none⟩) hb).trans D1.out
    have e2:wr.cell? ⟨b,o+1,none⟩=some (.slice a2 l2.length c2):=(hnb2.cell (p:=⟨b,o+1,none⟩) hb).trans D2.out
    rcases hrel with ⟨rfl,ho⟩ | ⟨rfl,ho⟩ | ⟨rfl,ho⟩
    ·go_wp2_with (at_builtin;refine wpList_appB _ rfl (.tmp 31) (.tmp 32) rfl _ [] rfl ho.1 a1 c1 l1 l1.length rfl rfl (H1.out.below hnb2) (by intro h;subst h;exact⟨by rw[H1.out.none_len];rfl,hn1 rfl⟩) (by simp;omega) ?_)
     intro v' w2 hown' hk hfr
     have hrel:Fresh w w2 v' l1:=⟨hown',fun g hg=>by
      rcases hfr g hg with h | h
      ·exact ho.2 g h
      ·exact Nat.le_trans hnb2.size h⟩
     have hnb3:Nb w w2:=hnb2.trans (hk.toBelow hnb2.size ho.2)
     clear hown' hk hfr ho e1 e2 hnb2
     go_wp2
     go_roundw
     case rel=>exact⟨.inr (.inl ⟨rfl,hrel⟩),hnb3⟩
     case measure=>simp[intOf]
    ·go_wp2_with (at_builtin;refine wpList_appB _ rfl (.tmp 31) (.tmp 32) rfl _ l1 rfl ho.1 a2 c2 l2 l2.length rfl rfl (H2.out.below hnb2) (by intro h;subst h;have:=H2.out.none_len;subst this;simp at h2n) (by omega) ?_)
     intro v' w2 hown' hk hfr
     have hrel:Fresh w w2 v' (l1++l2):=⟨hown',fun g hg=>by
      rcases hfr g hg with h | h
      ·exact ho.2 g h
      ·exact Nat.le_trans hnb2.size h⟩
     have hnb3:Nb w w2:=hnb2.trans (hk.toBelow hnb2.size ho.2)
     clear hown' hk hfr ho e1 e2 hnb2
     go_wp2
     go_roundw
     case rel=>exact⟨.inr (.inr ⟨rfl,hrel⟩),hnb3⟩
     case measure=>simp[intOf]
    ·obtain⟨a',c',rfl,hbs,_⟩:=ho.1.bs
     have HO:=Lib.hid ho
     clear ho hbs e1 e2
     go_wp2
     go_ret
     exact⟨⟨_,_,rfl,HO.out⟩,hnb2⟩
end Go.Proofs.YtipefblpppmabaaGreatDoor
namespace Go.Proofs.YtipefblpppmabaaGreatDoor
set_option linter.unusedVariables false
set_option linter.unusedSimpArgs false
open Go.RowKit
def addL (k:Int) (l:List Nat):List Nat:=if moreOk k (startK k) l then l++bitsN (runC (szK k) (polyK k) (startK k) l) (szK k) else []
def fitsB (k:Int) (l:List Nat):Bool :=
 decide (szK k≠0)&&decide (szK k<=l.length)&&chk l&&decide (numN (l.drop (l.length - szK k))=runC (szK k) (polyK k) (startK k) (l.take (l.length - szK k)))
theorem sumN_ok {k:Int} {l:List Nat} (h:moreOk k (startK k) l=true):sumN k l=runC (szK k) (polyK k) (startK k) l/\sumE k l=0:=by simp[sumN,sumE,moreN,moreE,h]
theorem sumN_bad {k:Int} {l:List Nat} (h:moreOk k (startK k) l=false):sumN k l=0/\sumE k l=2:=by simp[sumN,sumE,moreN,moreE,h]
theorem moreOk_parts {k:Int} {s:Nat} {l:List Nat} (h:moreOk k s l=true):szK k≠0/\s < 2^szK k/\chk l=true:=by
 simp only[moreOk,Bool.and_eq_true,decide_eq_true_eq] at h
 exact⟨h.1.1,h.1.2,h.2⟩
theorem moreOk_start {k:Int} {l:List Nat} (hz:szK k≠0) (hc:chk l=true):moreOk k (startK k) l=true:=by
 simp[moreOk,hz,hc,(kindOk k hz).start]
theorem add_u (k:Int) (a:Option Addr) (cap:Nat) (l:List Nat) (w:World) (hk:Kinds w) (h:Bs w a cap l) (hn:a=none->cap=0) :
    Calls Tryz.prog 163 #[.int .i64 k,.slice a l.length cap] w fun e w'=>(∃ a' c',e = .returned (.tuple #[.slice a' (addL k l).length c',.int .i64 (sumE k l)])/\Fresh w w' (.slice a' (addL k l).length c') (addL k l))/\Nb w w':=by
 have hL:=h.len
 have H:=Lib.hid h
 have HK:=Lib.hid hk
 cases hm:moreOk k (startK k) l with
 | false =>
   have hs:=sumN_bad hm
   have ha:addL k l=[]:=by simp[addL,hm]
   have h1:=sum_u k a cap l w hk h
   rw[hs.1,hs.2] at h1
   rw[ha,hs.2]
   have H1:=Lib.hid h1
   clear h hk hm hs ha h1
   go_enter Tryz.func163,Tryz.ntmps163
   go_wp2_with fail
   refine H1.out.mono ?_
   rintro e w1 ⟨rfl,hnb⟩
   go_wp2
   go_ret2
   exact⟨⟨none,0,rfl,OwnB.nil _,by simp[Value.ownBlock]⟩,hnb⟩
 | true =>
   obtain⟨hz,_,hc⟩:=moreOk_parts hm
   obtain⟨n1,n2,n3,_,n5⟩:=kindOk k hz
   have hs:=sumN_ok hm
   have ha:addL k l=l++bitsN (runC (szK k) (polyK k) (startK k) l) (szK k):=by simp[addL,hm]
   have h1:=sum_u k a cap l w hk h
   rw[hs.1,hs.2] at h1
   rw[ha,hs.2]
   have hS:=runC_lt n3 l _ n5
   generalize runC (szK k) (polyK k) (startK k) l=S at *
   have H1:=Lib.hid h1
   have HS:=Lib.hid hS
   have hl:=chk_len hc
   have hbl:=bitsN_length S (szK k)
   clear h hk hm hs ha h1 hS hc n3 n5
   go_enter Tryz.func163,Tryz.ntmps163
   go_wp2_with fail
   refine H1.out.mono ?_
   rintro e w1 ⟨rfl,hnb⟩
   go_wp2_with fail
   refine (size_any k _ (HK.out.below hnb)).mono ?_
   rintro e w2 ⟨rfl,hnb2⟩
   go_wp2_with fail
   refine (put_ok S (szK k) _ (by omega) HS.out).mono ?_
   rintro e w3 ⟨⟨a3,c3,rfl,hb3⟩,hnb3⟩
   have HB:=Lib.hid hb3
   have n123:=(hnb.tr hnb2).tr hnb3
   have N123:=Lib.hid n123
   clear hb3 hnb hnb2 hnb3
   go_wp2_with fail
   have hcat:=concat_any w3.heap.size 0 a a3 cap c3 l (bitsN S (szK k)) (w3.alloc (.cells #[.slice a l.length cap,.slice a3 (szK k) c3] 32)) (by simp) (by simp[hbl]) (H.out.below (n123.al _)) (HB.out.below (Nb.rfl.al _)) (by omega) hn (by omega) (by omega)
   refine hcat.mono ?_
   rintro e w4 ⟨⟨a',c',rfl,hf⟩,hn4⟩
   have hfin:(Fresh w w4 (.slice a' (l++bitsN S (szK k)).length c') (l++bitsN S (szK k))):=⟨hf.1,fun g hg=>Nat.le_trans (n123.al _).size (hf.2 g hg)⟩
   have hnf:=(n123.al _).tr hn4
   have HF:=Lib.hid hfin
   clear hcat hf hfin hn4 n123
   go_wp2
   go_ret2
   exact⟨⟨a',c',by rw[List.length_append,hbl];rfl,HF.out⟩,hnf⟩
theorem refadd_u (k:Int) (a:Option Addr) (cap:Nat) (l:List Nat) (w:World) (h:Bs w a cap l) (hn:a=none->cap=0) :
    Calls Tryz.prog 91 #[.int .i64 k,.slice a l.length cap] w fun e w'=>AnsB (addL k l) (sumE k l) e w'/\Nb w w':=by
 have hL:=h.len
 have H:=Lib.hid h
 cases hm:moreOk k (startK k) l with
 | false =>
   have hs:=sumN_bad hm
   have ha:addL k l=[]:=by simp[addL,hm]
   have h1:=refsum_u k a cap l w h
   rw[hs.1,hs.2] at h1
   rw[ha,hs.2]
   have H1:=Lib.hid h1
   clear h hm hs ha h1
   go_enter Tryz.func91,Tryz.ntmps91
   go_wp2_with fail
   refine H1.out.mono ?_
   rintro e w1 ⟨rfl,hnb⟩
   go_wp2
   go_ret2
   exact⟨⟨none,0,rfl,Bs.nil _⟩,hnb⟩
 | true =>
   obtain⟨hz,_,hc⟩:=moreOk_parts hm
   obtain⟨n1,n2,n3,_,n5⟩:=kindOk k hz
   have hs:=sumN_ok hm
   have ha:addL k l=l++bitsN (runC (szK k) (polyK k) (startK k) l) (szK k):=by simp[addL,hm]
   have h1:=refsum_u k a cap l w h
   rw[hs.1,hs.2] at h1
   rw[ha,hs.2]
   have hS:=runC_lt n3 l _ n5
   generalize runC (szK k) (polyK k) (startK k) l=S at *
   have h64:(2:Nat)^szK k<=4294967296:=Nat.pow_le_pow_right (by omega) n2
   have H1:=Lib.hid h1
   have hS64:S < 18446744073709551616:=by omega
   have hl:=chk_len hc
   have hbl:=bitsN_length S (szK k)
   clear h hm hs ha h1 hS hc n3 n5 h64
   go_enter Tryz.func91,Tryz.ntmps91
   go_wp2_with fail
   refine H1.out.mono ?_
   rintro e w1 ⟨rfl,hnb⟩
   go_wp2_with fail
   refine (of_any k _).mono ?_
   rintro e w2 ⟨rfl,rfl⟩
   go_wp2_with (at_builtin;refine wpList_appB _ rfl (.tmp 26) (.tmp 27) rfl _ [] rfl (OwnB.fresh0 _) a cap l l.length rfl rfl (H.out.below (hnb.al _)) (by intro h;subst h;exact⟨by rw[H.out.none_len];rfl,hn rfl⟩) (by simp;omega) ?_)
   intro v1 w2 ho1 hk1 hf1
   have fr1:∀ g,v1.ownBlock=some g->w.heap.size<=g:=fun g hg=>by
    rcases hf1 g hg with h | h
    ·simp[Value.ownBlock] at h
     have:=hnb.size
     omega
    ·have:=hnb.size
     omega
   have hnb2:Nb w w2:=(hnb.al _).trans (hk1.toBelow (Nat.le_trans hnb.size (by simp)) (by intro g hg;simp[Value.ownBlock] at hg;have:=hnb.size;omega))
   have HO:=Lib.hid ho1
   clear ho1 hk1 hf1 hnb
   go_wp2_with fail
   refine (refbits_any S (szK k) _ hS64 (by omega)).mono ?_
   rintro e w3 ⟨⟨a3,c3,rfl,hb3⟩,hnb3⟩
   have ho2:=HO.out.keep (F:=fun _=>False) (Kp.ofNb hnb3) (by simp)
   have hsz3:a3=none->szK k=0/\c3=0:=by
    rintro rfl
    exact absurd (by rw[<- hbl,hb3.none_len];rfl:szK k=0) hz
   go_wp2_with (at_builtin;refine wpList_appB _ rfl (.tmp 28) (.tmp 31) rfl _ l rfl ho2 a3 c3 (bitsN S (szK k)) (szK k) hbl.symm rfl hb3 hsz3 (by omega) ?_)
   intro v2 w4 ho4 hk4 hf4
   obtain⟨a4,c4,rfl,hb4,_⟩:=ho4.bs
   have hnb4:Nb w w4:=(hnb2.tr hnb3).trans (hk4.toBelow (hnb2.tr hnb3).size fr1)
   have HB:=Lib.hid hb4
   clear ho4 hk4 hf4 hb4 ho2 hnb2 hnb3 hb3
   go_wp2
   go_ret2
   exact⟨⟨a4,c4,rfl,HB.out⟩,hnb4⟩
end Go.Proofs.YtipefblpppmabaaGreatDoor
namespace Go.Proofs.YtipefblpppmabaaGreatDoor
set_option linter.unusedVariables false
set_option linter.unusedSimpArgs false
open Go.RowKit
theorem fits_add (k:Int) (l:List Nat) (hm:moreOk k (startK k) l=true) (hl:l.length<=60000):fitsB k (addL k l)=true/\(addL k l).take l.length=l/\(addL k l).length=l.length+szK k/\∀ b∈addL k l,b<=1:=by
 obtain⟨hz,_,hc⟩:=moreOk_parts hm
 obtain⟨n1,n2,n3,n4,n5⟩:=kindOk k hz
 have ha:addL k l=l++bitsN (runC (szK k) (polyK k) (startK k) l) (szK k):=by simp[addL,hm]
 have hS:=runC_lt n3 l _ n5
 have hlen:(addL k l).length=l.length+szK k:=by rw[ha,List.length_append,bitsN_length]
 have hbits:∀ b∈addL k l,b<=1:=by
  intro b hb
  rw[ha] at hb
  rcases List.mem_append.1 hb with h | h
  ·exact chk_bit hc b h
  ·have:=bitsN_lt _ _ b h;omega
 refine⟨?_,by rw[ha];simp,hlen,hbits⟩
 have hc2:chk (addL k l)=true:=by
  simp only[chk,Bool.and_eq_true,decide_eq_true_eq,List.all_eq_true]
  exact⟨by omega,hbits⟩
 have e:(addL k l).length - szK k=l.length:=by omega
 simp only[fitsB,hc2,e,Bool.and_eq_true,decide_eq_true_eq]
 refine⟨⟨⟨hz,by omega⟩,trivial⟩,?_⟩
 rw[ha]
 simp[numN_bitsN _ _ hS]
end Go.Proofs.YtipefblpppmabaaGreatDoor
namespace Go.Proofs.YtipefblpppmabaaGreatDoor
set_option linter.unusedVariables false
set_option linter.unusedSimpArgs false
open Go.RowKit
theorem gKinds : Tryz.prog.globalNamed "omnibus/crc.kinds" = some 1 := by kernel_rfl
theorem tKinds:(Tryz.prog.globals[1]?).map (·.type)=some 243:=by kernel_rfl
theorem cellsRule:Tryz.prog.cellsOf 231=3:=by kernel_rfl
theorem cellsInt:Tryz.prog.cellsOf 3=1:=by kernel_rfl
theorem cellsU64:Tryz.prog.cellsOf 96=1:=by kernel_rfl
theorem kinds_row {H:Type} {enc:TypeId × Value->H} {w:World} {base:Nat} {sp:Nat->Bool} {held:Bool} {fuel:Nat} {cs:List Value} {a b c:Int} {p:List MemPlace}
    (h:DataW.trod enc Tryz.prog w base sp held fuel 231 cs=some (.agg [.lit (.int .i64 a),.lit (.int .u64 b),.lit (.int .u64 c)],p)):cs=[.int .i64 a,.int .u64 b,.int .u64 c]:=by
 obtain⟨y0,y1,y2,n,hx,hl,h0,h1,h2⟩:=Go.Deep.trod_struct3 Tryz.underlying231 h
 obtain⟨n0,c0,e0,_⟩:=DataW.trod_int Tryz.underlying3 h0
 obtain⟨n1,c1,e1,_⟩:=DataW.trod_int Tryz.underlying96 h1
 obtain⟨n2,c2,e2,_⟩:=DataW.trod_int Tryz.underlying96 h2
 simp only[cellsInt,cellsU64] at c0 c1 c2
 subst e0 e1 e2
 simp only[Prod.mk.injEq,DataW.agg.injEq,List.cons.injEq,DataW.lit.injEq,Lit.int.injEq,and_true,true_and] at hx
 obtain⟨⟨rfl,rfl,rfl⟩,_⟩:=hx
 rw[cellsRule] at hl
 match cs,hl with
 | [x,y,z],_ =>
   simp at c0 c1 c2
   rw[c0,c1,c2]
theorem kinds_of {W : World} (h : laidMetH Tryz.prog [("omnibus/crc.kinds", Rows.laid_omnibus_crc_kinds)] W) : Kinds W := by
 rw[MakeChecks.laidMetH_plain _ _ _ (by kernel_rfl)] at h
 obtain⟨ps,⟨g0,t0,cs0,f0,p0,q0,hg0,ht0,hv0,hd0,_,_⟩,_,_⟩:=h
 obtain rfl:=Option.some.inj (gKinds.symm.trans hg0)
 obtain rfl:=Option.some.inj (tKinds.symm.trans ht0)
 obtain⟨xs,m1,rfl,hx1,hlen,hn6,hel⟩:=DataW.trod_array Tryz.underlying243 hd0
 rw[cellsRule] at hel
 simp only[Prod.mk.injEq] at hx1
 obtain⟨hx1,_⟩:=hx1
 have hrow:∀ i a b c p,i < 6->xs[i]? = some (.agg [.lit (.int .i64 a),.lit (.int .u64 b),.lit (.int .u64 c)],p)->cs0.toList[i*3]? = some (.int .i64 a)/\cs0.toList[i*3+1]? = some (.int .u64 b)/\cs0.toList[i*3+2]? = some (.int .u64 c):=by
  intro i a b c p hi hx
  have h1:=kinds_row ((hel i hi).trans hx)
  refine⟨?_,?_,?_⟩
  ·have:=congrArg (·[0]?) h1;simpa [List.getElem?_take,List.getElem?_drop] using this
  ·have:=congrArg (·[1]?) h1;simpa [List.getElem?_take,List.getElem?_drop] using this
  ·have:=congrArg (·[2]?) h1;simpa [List.getElem?_take,List.getElem?_drop] using this
 intro i v hv
 rw[World.var?_cell gKinds hv0 i]
 rw[<- Array.getElem?_toList]
 match xs,hn6,hx1,hrow with
 | [(d0,p0),(d1,p1),(d2,p2),(d3,p3),(d4,p4),(d5,p5)],_,hx1,hrow =>
   simp only[Rows.laid_omnibus_crc_kinds,List.map_cons,List.map_nil,DataW.agg.injEq,List.cons.injEq,and_true] at hx1
   obtain⟨rfl,rfl,rfl,rfl,rfl,rfl⟩:=hx1
   have r0:=hrow 0 _ _ _ _ (by decide) rfl
   have r1:=hrow 1 _ _ _ _ (by decide) rfl
   have r2:=hrow 2 _ _ _ _ (by decide) rfl
   have r3:=hrow 3 _ _ _ _ (by decide) rfl
   have r4:=hrow 4 _ _ _ _ (by decide) rfl
   have r5:=hrow 5 _ _ _ _ (by decide) rfl
   have hi:i < 18:=(List.getElem?_eq_some_iff.1 hv).1
   rcases (by omega:i=0\/i=1\/i=2\/i=3\/i=4\/i=5\/i=6\/i=7\/i=8\/i=9\/i=10\/i=11\/i=12\/i=13\/i=14\/i=15\/i=16\/i=17) with rfl | rfl | rfl | rfl | rfl | rfl | rfl | rfl | rfl | rfl | rfl | rfl | rfl | rfl | rfl | rfl | rfl | rfl
   all_goals
    simp only[kindsTab,List.getElem?_cons_succ,List.getElem?_cons_zero,Option.some.injEq] at hv
    subst hv
    first
    | exact r0.1 | exact r0.2.1 | exact r0.2.2 | exact r1.1 | exact r1.2.1 | exact r1.2.2 | exact r2.1 | exact r2.2.1 | exact r2.2.2
    | exact r3.1 | exact r3.2.1 | exact r3.2.2 | exact r4.1 | exact r4.2.1 | exact r4.2.2 | exact r5.1 | exact r5.2.1 | exact r5.2.2
end Go.Proofs.YtipefblpppmabaaGreatDoor
