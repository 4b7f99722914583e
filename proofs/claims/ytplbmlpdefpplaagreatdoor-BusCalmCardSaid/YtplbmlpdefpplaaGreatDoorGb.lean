/- Contracts of Get, Bytes and Pack, and more. Conditions: as each says. -/
import Derived.Test.YtplbmlpdefpplaaGreatDoorGa
set_option maxHeartbeats 800000
set_option maxRecDepth 100000
namespace Go.Proofs.YtplbmlpdefpplaaGreatDoor
set_option linter.unusedVariables false
set_option linter.unusedSimpArgs false
open Go.RowKit
def zhP(l:List Nat):Bool:=decide (l.length<=64)&&chk l
theorem zjY (a:Option Addr) (cap:Nat) (l:List Nat) (w:World) (h:Bs w a cap l) (hc:zhP l=true) :
    Calls Tryz.prog 258 #[.slice a l.length cap] w fun e w'=>e = .returned (.tuple #[.int .u64 (zF l),.int .i64 0])/\Nb w w':=by
 have hL:=h.len
 have h1:l.length<=64:=by simp[zhP]at hc;exact hc.1
 have hc':chk l=true:=by simpa [zhP,h1]using hc
 have hbit:=zH (z0C hc')
 have HC:=zH hc'
 have H:=zH h
 clear hc hc' h
 have d1:decide (64 < (l.length:Int))=false:=by simp;omega
 have hmf:∀(fn:Fn) (first cap:Array Value) (w:World),(Instr.makeFunc fn first cap).run Tryz.prog w = .ok (.func fn first cap) w:=fun _ _ _ _=>rfl
 go_enter Tryz.func258,Tryz.ntmps258
 go_wp2_with fail
 refine(z3g a cap l w H.out HC.out).mono ?_
 rintro e w' ⟨rfl,rfl⟩
 go_wp2_with fail
 refine(z80 266 (.pointer (some ⟨w.heap.size,0,none⟩)) a cap l (fun k wr=>Blk wr w.heap.size #[.int .u64 (zF (l.take k))] 281/\Nb w wr) _ hL ⟨Blk.new _ _ _,Nb.rfl.al _⟩ (fun k wr hI=>H.out.below hI.2) (hcf _ _ Tryz.func266 (by rfl) (by decide +kernel)) ?_).mono ?_
 ·rintro k x wr ⟨hb,hnb⟩ hx
  have hk:k < l.length:=(List.getElem?_eq_some_iff.1 hx).1
  have h1:=z3u (l.take k) (fun x hx=>hbit.out x (List.mem_of_mem_take hx))
  rw[List.length_take,Nat.min_eq_left (by omega)]at h1
  have h2:2^k<=2^63:=Nat.pow_le_pow_right (by omega) (by omega)
  refine(zc6 w.heap.size (zF (l.take k)) x wr hb (by omega) (hbit.out x (List.mem_of_getElem? hx))).mono ?_
  rintro e w' ⟨rfl,hb',hk'⟩
  exact⟨rfl,by rw[zX hx,z0S];exact hb',hnb.trans (hk'.toBelow hnb.size (by rintro k rfl;exact Nat.le_refl _))⟩
 ·rintro e w2 ⟨rfl,hb,hnb⟩
  rw[List.take_of_length_le (Nat.le_refl _)]at hb
  have c0:w2.cell? ⟨w.heap.size,0,none⟩=some (.int .u64 (zF l)):=hb.cell 0
  clear hb
  go_wp2
  go_ret2
  exact⟨rfl,hnb⟩
theorem z06 (n size:Nat) (w:World) (hn:n < 2^64) (hs:size<=64) :
    Calls Tryz.prog 83 #[.int .u64 n,.int .i64 size] w fun e w'=>(∃a c,e = .returned (.slice a size c)/\Bs w' a c (zc n size))/\Nb w w':=by
 have hm:∀w,(Instr.makeSlice 35 (.int .i64 (size:Int)) (.int .i64 (size:Int))).run Tryz.prog w=_:=fun w=>z1Z w size (by omega)
 have h0:=z04.full w size (by omega)
 have HO:=zH h0
 have HN:=zH hn
 clear h0 hn
 go_enter Tryz.func83,Tryz.ntmps83
 go_wp2
 go_loopw [0,6] (fun m i wr=>∃k:Nat,k<=size/\i = .int .i64 ((k:Int) - 1)/\m = .int .u64 ((n / 2^(size - k):Nat):Int)/\z04 wr (.slice (some ⟨w.heap.size,0,none⟩) size size) (List.replicate k 0++(zc n size).drop k)/\Nb w wr) (fun _ i _=>(intOf i+1).toNat)
 case atStart =>
  refine⟨size,Nat.le_refl _,rfl,by simp,?_,Nb.rfl.al _⟩
  rw[List.drop_of_length_le (by rw[zb];exact Nat.le_refl _),List.append_nil]
  exact HO.out
 case round =>
  obtain⟨k,hk,rfl,rfl,ho,hnb⟩:=hrel
  cases k with
  | succ k =>
    have hlen:(List.replicate (k+1) 0++(zc n size).drop (k+1)).length=size:=by simp[zb];omega
    have hf:wr.frozen? ⟨w.heap.size,k,none⟩=false:=ho.frozen rfl _
    have hc:wr.cell? ⟨w.heap.size,k,none⟩=some (.int .u8 ((0:Nat):Int)):=by
     obtain⟨a,cp,hv,hbs,_⟩:=ho.bs
     obtain⟨b,o,rfl,hcl⟩:=hbs.hcells (by omega)
     simp only[Value.slice.injEq,Option.some.injEq,Addr.mk.injEq,and_true]at hv
     obtain⟨⟨rfl,rfl⟩,_,rfl⟩:=hv
     have h3:=hcl k (by omega)
     rw[Nat.zero_add]at h3
     rw[h3]
     simp[List.getD,List.getElem?_append_left,List.getElem?_replicate]
    have hq:n / 2^(size - (k+1)) < 2^64:=Nat.lt_of_le_of_lt (Nat.div_le_self _ _) HN.out
    have hset:=ho.setByte (g:=w.heap.size) rfl k (by omega) (n / 2^(size - (k+1))%2) (by omega)
    have e1:(List.replicate (k+1) 0++(zc n size).drop (k+1)).set k (n / 2^(size - (k+1))%2)=List.replicate k 0++(zc n size).drop k:=by
     rw[List.drop_eq_getElem_cons (i:=k) (by rw[zb];omega),List.replicate_succ',List.append_assoc,List.set_append_right _ _ (by simp)]
     simp[zc,show size - 1 - k=size - (k+1)from by omega]
    rw[e1]at hset
    have e2:n / 2^(size - (k+1)) / 2=n / 2^(size - k):=by rw[Nat.div_div_eq_div_mul,<- Nat.pow_succ,show(size - (k+1)).succ=size - k from by omega]
    have HS:=zH hset
    have HE:=zH e2
    have d1:(k:Int)+1 - 1=k:=by omega
    clear hset e1 e2 ho hlen
    rw[show((k+1:Nat):Int) - 1=(k:Int)from by omega]
    clear d1
    generalize n / 2^(size - (k+1))=q at *
    have dq:((q%2:Nat):Int)=((q:Int)%2):=by omega
    have DQ:=zH dq
    clear dq
    go_wp2
    go_roundw
    case rel =>
     refine⟨k,by omega,rfl,?_,?_,hnb.st (by simp) _⟩
     ·rw[<- HE.out];go_num
     ·rw[<- DQ.out];exact HS.out
    case measure=>simp[intOf]
  | zero =>
    have hl:(List.replicate 0 0++(zc n size).drop 0)=zc n size:=by simp
    rw[hl]at ho
    obtain⟨a,c,hv,hbs,_⟩:=ho.bs
    simp only[Value.slice.injEq,zb,true_and]at hv
    obtain⟨rfl,rfl⟩:=hv
    clear ho hl
    go_wp2
    go_ret
    exact⟨⟨_,_,rfl,hbs⟩,hnb⟩
theorem z3t (a:Option Addr) (cap:Nat) (l:List Nat) (w:World) (h:Bs w a cap l) (hl:l.length<=1000000) :
    Calls Tryz.prog 84 #[.slice a l.length cap] w fun e w'=>(∃a c,e = .returned (.slice a (8*l.length) c)/\Bs w' a c (l.flatMap fun x=>zc x 8)/\(a=none->c=0))/\Nb w w':=by
 have H:=zH h
 have hfl:∀k,k<=l.length->((l.take k).flatMap fun x=>zc x 8).length=8*k:=by
  intro k hk
  induction k with
  | zero=>simp
  | succ k ih =>
    rw[zX (x:=l[k]) (by simp),List.flatMap_append,List.length_append,ih (by omega)]
    simp[zb]
    omega
 have HF:=zH hfl
 clear h hfl
 go_enter Tryz.func84,Tryz.ntmps84
 go_wp2
 go_loopw [3,8] (fun v i wr=>∃k:Nat,k<=l.length/\i = .int .i64 k/\z04 wr v ((l.take k).flatMap fun x=>zc x 8)/\(∀g,v.ownBlock=some g->w.heap.size<=g)/\Nb w wr) (fun _ i _=>l.length - (intOf i).toNat)
 case atStart=>exact⟨0,Nat.zero_le _,rfl,by simpa using z04.nil w,by simp[Value.ownBlock],Nb.rfl⟩
 case round =>
  obtain⟨k,hk,rfl,ho,hfr,hnb⟩:=hrel
  have hsz:=HF.out k hk
  by_cases hlt:k < l.length
  ·obtain⟨b,o,rfl,hcl⟩:=(H.out.below hnb).hcells (by omega)
   obtain⟨x,hx⟩:∃x,l[k]? = some x:=⟨l[k],by simp[hlt]⟩
   have c1:=hcl k hlt
   rw[show l.getD k 0=x from by simp[List.getD,hx]]at c1
   have hx1:x < 256:=H.out.hbyte x (List.mem_of_getElem? hx)
   have HX:=zH hx
   have HO:=zH ho
   have HZ:=zH hsz
   clear hcl hx ho hsz
   go_wp2_with fail
   refine(z06 x 8 _ (by omega) (by omega)).mono ?_
   rintro e w1 ⟨⟨a',c',rfl,hbs⟩,hnb1⟩
   have ho1:=HO.out.keep (F:=fun _=>False) (Kp.ofNb hnb1) (by simp)
   have ha':a'=none->8=0/\c'=0:=by
    rintro rfl
    obtain⟨_,_,h,_⟩:=hbs.hcells (by rw[zb];omega)
    cases h
   have hsz:=HZ.out
   go_wp2_with (at_builtin;refine zd _ rfl (.tmp 12) (.tmp 15) rfl _ _ rfl ho1 a' c' (zc x 8) 8 (by rw[zb]) rfl hbs ha' (by rw[hsz,zb];omega) ?_)
   intro v' w2 hown hk2 hfr2
   have hrel:z04 w2 v' ((l.take (k+1)).flatMap fun x=>zc x 8):=by
    rw[zX HX.out,List.flatMap_append]
    simpa using hown
   have hfr':∀g,v'.ownBlock=some g->w.heap.size<=g:=fun g hg=>by
    rcases hfr2 g hg with h | h
    ·exact hfr g h
    ·exact Nat.le_trans hnb.size (Nat.le_trans hnb1.size h)
   have hnb2:Nb w w2:=(hnb.tr hnb1).trans (hk2.toBelow (Nat.le_trans hnb.size hnb1.size) hfr)
   clear hown hk2 hfr2 hbs ho1
   go_wp2
   go_roundw
   case rel=>exact⟨k+1,by omega,by go_num,hrel,hfr',hnb2⟩
   case measure=>simp[intOf];omega
  ·obtain rfl:k=l.length:=by omega
   rw[List.take_of_length_le (Nat.le_refl _)]at ho hsz
   obtain⟨a',c',rfl,hbs,_⟩:=ho.bs
   have hz:=zH ((show zf w wr (.slice a' _ c') _ from⟨ho,hfr⟩).bs.2)
   have HB:=zH hbs
   have HZ:=zH hsz
   clear ho hbs hsz
   go_wp2
   go_ret
   exact⟨⟨a',c',by rw[<- HZ.out];rfl,HB.out,hz.out⟩,hnb⟩
def ze(l:List Nat):List Nat:=l.flatMap fun x=>zc x 8
theorem zN(l:List Nat):(ze l).length=8*l.length:=by
 induction l with
 | nil=>rfl
 | cons x l ih =>
   unfold ze at *
   rw[List.flatMap_cons,List.length_append,ih,zb,List.length_cons];omega
end Go.Proofs.YtplbmlpdefpplaaGreatDoor
