/- Contract of slices.Repeat at a slice of one byte, and more. Conditions: as each says. -/
import Derived.Test.YtplbmlpdefpplaaGreatDoorGa
import Derived.Laws.CopyOwn
import Derived.Deep.RegionLawGrows
set_option maxHeartbeats 3200000
set_option maxRecDepth 100000
namespace Go.Proofs.YtplbmlpdefpplaaGreatDoor
set_option linter.unusedVariables false
set_option linter.unusedSimpArgs false
open Go.RowKit
variable {ops:Array Oper}
def zR(l:List Nat):List Value:=l.map fun x:Nat=>Value.int .u8 (x:Int)
theorem z04.row{w:World}{g n:Nat}{l:List Nat}(h:w.heap[g]? = some (.cells (zR l).toArray 5 (0,0)))(hl:l.length=n)(hn:n<=maxLen)(hb:∀x∈l,x < 256):z04 w (.slice (some ⟨g,0,none⟩) n n) l:=by
 subst hl
 exact⟨⟨by simp,.inr ⟨g,l.length,(zR l).toArray,rfl,Nat.zero_le _,h,Nat.le_refl _,hn,by simp[zR],by simp[zR,List.take_of_length_le]⟩⟩,hb⟩
theorem zaM {w':World} {g f b o x m:Nat} (h:∀j,j < m->w'.cell? ⟨b,o+j,none⟩=some (.int .u8 x)) :
    0 < (zR (List.replicate m x)).length->(some ⟨g,f,none⟩:Option Addr)=some ⟨g,f,none⟩/\∃ad,(some ⟨b,o,none⟩:Option Addr)=some ad/\∀(j:Nat) (v:Value),(zR (List.replicate m x))[j]? = some v->w'.cell? (ad.add j)=some v:=fun _=>⟨rfl,_,rfl,by
    intro j v hv
    simp only[zR,List.map_replicate,List.getElem?_replicate]at hv
    split at hv
    ·rename_i hj
     rw[Addr.add_lit,h j hj];exact hv
    ·cases hv⟩
theorem z5Z(x n k m:Nat)(hk:k<=n)(hm:m=min k (n - k)):splice (zR (List.replicate k x++List.replicate (n - k) 0)) k (zR (List.replicate m x))=zR (List.replicate (k+m) x++List.replicate (n - (k+m)) 0):=by
 subst hm
 simp only[splice,zR,List.map_append,List.map_replicate]
 rw[List.take_append_of_le_length (by simp),List.take_of_length_le (by simp),List.length_replicate]
 rw[List.drop_append,List.drop_of_length_le (by simp),List.nil_append,List.drop_replicate,List.length_replicate,<- List.append_assoc,List.replicate_append_replicate]
 congr 2
 omega
theorem zh6(n:Nat)(w:World)(hn:n<=1000):Calls Tryz.prog 179 #[.int .u64 1,.int .u64 n] w fun e w'=>e = .returned (.tuple #[.int .u64 0,.int .u64 n])/\w=w':=by
 have e1:bits BinOp.and IntKind.u64 (n:Int) 4294967295=n:=by
  have h2:=bits_and_u64_nat n (2^32 - 1) (by omega) (by decide)
  rw[Nat.and_two_pow_sub_one_eq_mod,Nat.mod_eq_of_lt (by omega)]at h2
  exact h2
 have e2:(n:Int) / 4294967296=0:=by omega
 have e0:bits BinOp.and IntKind.u64 1 4294967295=1:=by decide +kernel
 have e4:IntKind.u64.wrap (n:Int)=n:=by rw[IntKind.wrap_u64];omega
 have e5:IntKind.u64.wrap 0=0:=by decide +kernel
 have e6:bits BinOp.and IntKind.u64 0 4294967295=0:=by decide +kernel
 go_enter Tryz.func179,Tryz.ntmps179
 go_wp2_with (go_in)
 go_ret2
 exact⟨rfl,rfl⟩
theorem zbT (b o c x n:Nat) (w:World) (hc:w.cell? ⟨b,o,none⟩=some (.int .u8 x)) (hx:x < 256) (h0:0 < n) (hn:n<=1000) :
    Calls Tryz.prog 154 #[.slice (some ⟨b,o,none⟩) 1 c,.int .i64 n] w fun e w'=>(∃a c',e = .returned (.slice a n c')/\zf w w' (.slice a n c') (List.replicate n x))/\Nb w w':=by
 have hM:=zH (zh6 n w hn)
 have d1:decide ((n:Int) < 0)=false:=by simp
 have e4:IntKind.u64.wrap (n:Int)=n:=by rw[IntKind.wrap_u64];omega
 have d2:decide (9223372036854775807 < (n:Int))=false:=by simp;omega
 have hm:∀w,(Instr.makeSlice 35 (.int .i64 (n:Int)) (.int .i64 (n:Int))).run Tryz.prog w=_:=fun w=>z1Z w n (by omega)
 have HC:=zH hc
 clear hc
 go_enter Tryz.func154,Tryz.ntmps154
 go_wp2_with fail
 refine hM.out.mono ?_
 rintro e w1 ⟨rfl,rfl⟩
 have hmade:madeCells #[.int .u8 0] n=(zR (List.replicate n 0)).toArray:=by
  rw[<- Array.toArray_toList (xs:=madeCells #[.int .u8 0] n),z2F]
  simp[zR]
 have hsz:(Tryz.prog.info? 5).map (·.size)=some 1:=by kernel_rfl
 have HC2:=zH (show ∀j,j < 1->(w.alloc (.cells (madeCells #[.int .u8 0] n) 5)).cell? ⟨b,o+j,none⟩=some (.int .u8 x)from fun j hj=>by
  have:j=0:=by omega
  subst this
  exact((Nb.rfl.al (.cells (madeCells #[.int .u8 0] n) 5):Nb w _).cell (p:=⟨b,o,none⟩) (World.block_lt_of_cell? _ _ HC.out)).trans HC.out)
 have hg0:(w.alloc (.cells (madeCells #[.int .u8 0] n) 5)).heap[w.heap.size]? = some (.cells (zR (List.replicate n 0)).toArray 5 (0,0)):=by rw[<- hmade];exact heap_alloc_new w _
 have HG0:=zH hg0
 clear hmade hg0
 have q1:(zR (List.replicate 1 x)).length=Nat.min 1 n:=by
  have:Nat.min 1 n=1:=Nat.min_eq_left h0
  rw[this];rfl
 have q3:0+(zR (List.replicate 1 x)).length<=(zR (List.replicate n 0)).length:=by simp[zR];omega
 have q4:∀v∈zR (List.replicate 1 x),v.oneCell'=true:=by simp[zR,Value.oneCell']
 have q5:Below w.heap.size w (w.alloc (.cells (madeCells #[.int .u8 0] n) 5)):=Nb.rfl.al _
 have Q1:=zH q1
 have Q3:=zH q3
 have Q4:=zH q4
 have Q5:=zH q5
 clear q1 q3 q4 q5
 go_wp2_with (refine wpList_copy_splice (o:=⟨some 33,_,_,_,_,_⟩) rfl (.tmp 31) (.tmp 32) 35 35 rfl 5 Tryz.underlying35 hsz (some ⟨w.heap.size,0,none⟩) (some ⟨b,o,none⟩) n n 1 c rfl rfl w.heap.size 0 (zR (List.replicate n 0)) 5 HG0.out (zR (List.replicate 1 x)) Q1.out (zaM HC2.out) Q3.out Q4.out w.heap.size w Q5.out (Nat.le_refl _) ?_;intro w2 HG2 hB2)
 have G2:=zH (show w2.heap[w.heap.size]? = some (.cells (zR (List.replicate 1 x++List.replicate (n - 1) 0)).toArray 5 (0,0))from by
  have h0:=HG2.out
  have h1:=z5Z x n 0 0 (by omega) (by omega)
  simp only[splice,zR]at h0 ⊢
  rw[h0]
  simp
  )
 clear HG2
 go_loopw [8] (fun ix wr=>∃k:Nat,1<=k/\k<=n/\ix = .int .i64 k/\Hid (wr.heap[w.heap.size]? = some (.cells (zR (List.replicate k x++List.replicate (n - k) 0)).toArray 5 (0,0)))/\Nb w wr) (fun ix _=>n - (intOf ix).toNat)
 case atStart=>exact⟨1,Nat.le_refl _,h0,rfl,G2,hB2⟩
 case round =>
  clear HG0 Q1 Q3 Q4 Q5 HC2 G2 hB2
  obtain⟨k,h1,h2,rfl,hg,nr⟩:=hrel
  by_cases hlt:k < n
  ·have hcL:=z38 (some ⟨w.heap.size,0,none⟩) n n k h2
   rw[show z7K (some ⟨w.heap.size,0,none⟩) n k=some ⟨w.heap.size,k,none⟩ by simp[z7K,show ¬n=k by omega,show ¬k=0 by omega,Addr.add]]at hcL
   have hcH:=zbc (some ⟨w.heap.size,0,none⟩) n n k h2
   obtain⟨m,hm⟩:∃m,m=min k (n - k):=⟨_,rfl⟩
   have HM:=zH hm
   have HS:=zH (show ∀j,j < m->wr.drew.cell? ⟨w.heap.size,0+j,none⟩=some (.int .u8 x)from fun j hj=>by
    have:=hg.out
    show wr.cell? _=_
    simp only[World.cell?,this,Nat.zero_add]
    simp[zR,List.getElem?_append_left,show j < k by omega])
   have Q1:=zH (show(zR (List.replicate m x)).length=Nat.min k (n - k)from by simp[zR,hm])
   have Q3:=zH (show k+(zR (List.replicate m x)).length<=(zR (List.replicate k x++List.replicate (n - k) 0)).length from by simp[zR];omega)
   have Q4:=zH (show ∀v∈zR (List.replicate m x),v.oneCell'=true from by simp[zR,Value.oneCell'])
   have Q5:=zH (show Below w.heap.size w wr.drew from nr.tr (show Nb wr wr.drew from Nb.drewN wr 1))
   have QG:=zH (show wr.drew.heap[w.heap.size]? = some (.cells (zR (List.replicate k x++List.replicate (n - k) 0)).toArray 5 (0,0))from hg.out)
   clear hm
   go_wp2_with fail
   go_region_law (refine step_copy_splice rfl (.tmp 41) (.tmp 44) 35 35 rfl 5 Tryz.underlying35 hsz (some ⟨w.heap.size,k,none⟩) (some ⟨w.heap.size,0,none⟩) (n - k) (n - k) k n (by simp[Act.eval,Act.put]) (by simp[Act.eval,Act.put]) w.heap.size k (zR (List.replicate k x++List.replicate (n - k) 0)) 5 QG.out (zR (List.replicate m x)) Q1.out (zaM HS.out) Q3.out Q4.out w.heap.size w Q5.out (Nat.le_refl _) ?_;intro w4 HG4 hB4)
   have G4:=HG4.out
   rw[z5Z x n k m h2 HM.out]at G4
   have G5:=zH G4
   clear HG4 G4 QG HS Q1 Q3 Q4 Q5 hg
   go_wp2
   have ew:IntKind.i64.wrap ((k:Int)+((zR (List.replicate m x)).length:Int))=((k+m:Nat):Int):=by
    rw[show(zR (List.replicate m x)).length=m by simp[zR]]
    have:=HM.out
    simp only[IntKind.wrap,IntKind.bits,IntKind.signed]
    simp
    omega
   go_roundw
   case rel=>exact⟨_,_,_,_,_,_,_,_,_,_,_,_,_,_,⟨k+m,by omega,by have:=HM.out;omega,congrArg (Value.int .i64) ew,G5,hB4⟩,rfl⟩
   case measure =>
    show n - (intOf (Value.int IntKind.i64 (IntKind.i64.wrap ((k:Int)+((zR (List.replicate m x)).length:Int))))).toNat < n - (intOf (Value.int IntKind.i64 (k:Int))).toNat
    rw[ew]
    simp[intOf]
    have:=HM.out
    omega
  ·obtain rfl:k=n:=by omega
   have hgo:=hg.out
   rw[Nat.sub_self,List.replicate_zero,List.append_nil]at hgo
   have HF:=zH (show zf w wr (.slice (some ⟨w.heap.size,0,none⟩) k k) (List.replicate k x) from⟨z04.row hgo (by simp) (by unfold maxLen;omega) (by intro y hy;rw[List.eq_of_mem_replicate hy];exact hx),by intro g hg;simp[Value.ownBlock]at hg;omega⟩)
   clear hg hgo
   go_wp2
   go_ret
   exact⟨⟨_,_,rfl,HF.out⟩,nr⟩
theorem z1P (w:World) {o:Oper} {a:Act} {K:Act->World->Prop} {Q:Exit->Act->World->Prop} {E:Prop}
    (hg:o.guard=none) (s x:Operand) (hop:o.op=Op.call { callee:=Callee.builtin Builtin.append,args:=#[s,x],argTypes:=#[35,35] })
    (v:Value) (l:List Nat) (hs:a.eval s=v) (hown:z04 w v l)
    (ao:Option Addr) (c:Nat) (ns:List Nat) (m:Nat) (hm:m=ns.length) (hx:a.eval x = .slice ao m c) (hb:Bs w ao c ns) (hpos:0 < ns.length)
    (b1:l.length+ns.length<=140737488355328)
    (hK:∀v' w',z04 w' v' (l++ns)->Kp (fun k=>v.ownBlock=some k) w w'->(∀g,v'.ownBlock=some g->v.ownBlock=some g\/w.heap.size<=g)->K (a.put o.dst v') w') :
    if Region.wanted o (yielded ops a.tmps)=true then Oper.wp Tryz.prog o a w K Q else E:=by
 obtain⟨i0,hi,hz0,hz1,hz2⟩:=info_parts z5G
 subst hm
 obtain⟨b,o',rfl,hcell⟩:=hb.hcells hpos
 have hc:∀j u,(ns.map fun x:Nat=>Value.int .u8 (x:Int))[j]? = some u->w.cell? ((⟨b,o',none⟩:Addr).add j)=some u:=by
  intro j u hu
  have hj:j < ns.length:=by
   have:=(List.getElem?_eq_some_iff.1 hu).1
   simpa using this
  rw[Addr.add_lit,hcell j hj]
  rw[<- hu]
  simp[List.getD,hj]
 have h1c:∀u∈(ns.map fun x:Nat=>Value.int .u8 (x:Int)),u.oneCell'=true:=by
  intro u hu
  obtain⟨y,_,rfl⟩:=List.mem_map.1 hu
  rfl
 have hby:∀y∈l++ns,y < 256:=by
  intro y hy
  rcases List.mem_append.1 hy with h | h
  ·exact hown.2 y h
  ·exact hb.hbyte y h
 have hlen:(ns.map fun x:Nat=>Value.int .u8 (x:Int)).length=ns.length*1:=by simp
 have hnew:∀v' w',w'.ownsRow w.heap.size 5 1 v' (l.length+ns.length) ((l.map fun x:Nat=>Value.int .u8 (x:Int))++(ns.map fun x:Nat=>Value.int .u8 (x:Int)))->w.grownBy w' none->K (a.put o.dst v') w':=fun v' w' ho hgr =>
  hK v' w' ⟨by simpa using z20 ho,hby⟩ (Kp.grown hgr (by simp)) (fun g hg => .inr (ho.lt g hg).1)
 rcases hown.1.2 with ⟨rfl,h2⟩ | ⟨g,cap,cur,rfl,hbg,hgg,hnc,hcm,hcs,htake⟩
 ·have hl:l=[]:=List.length_eq_zero_iff.1 h2
  subst hl
  exact step_append_grows hg s x 35 hop 5 i0 (.int .u8 0) 1 1 Tryz.underlying35 hi hz0 hz1 hz2 rfl (by decide) none 0 0 [] hs (fun _=>⟨rfl,rfl⟩) (by simp) (by simp) ⟨b,o',none⟩ ns.length c _ hx hlen hc h1c (by omega) (by unfold maxLen;simp only[List.length_nil]at b1;omega) (by simp only[List.length_nil]at b1;omega) (by simpa using hnew)
 ·by_cases hroom:l.length+ns.length<=cap
  ·have hw:Region.wanted o (yielded ops a.tmps)=true:=by simp[Region.wanted,hg]
   rw[if_pos hw]
   obtain⟨w',hrun,r1,r2⟩:=run_append_fits (P:=Tryz.prog) w 0 35 o.type 5 i0 1 Tryz.underlying35 hi hz1 g l.length cap _ hown.1 ⟨b,o',none⟩ ns.length c _ hlen hc h1c hroom
   unfold Oper.wp
   simp[execOp,hop,resolve,invoke,builtin,hs,hx,hrun,Result.andThen]
   exact hK _ _ ⟨by simpa using r1,hby⟩ (Kp.grown r2 (fun k hk=>by simpa [Value.ownBlock]using hk)) (fun k hk => .inl (by simpa [Value.ownBlock]using hk))
  ·exact step_append_grows hg s x 35 hop 5 i0 (.int .u8 0) 1 1 Tryz.underlying35 hi hz0 hz1 hz2 rfl (by decide) (some ⟨g,0,none⟩) l.length cap _ hs (by simp) (by simp) (fun b hb=>by cases hb;exact hown.1.cells (g:=g) rfl) ⟨b,o',none⟩ ns.length c _ hx hlen hc h1c (by omega) (by unfold maxLen;omega) (by omega) hnew
theorem zce (w:World) {o:Oper} {a:Act} {K:Act->World->Prop} {Q:Exit->Act->World->Prop} {E:Prop}
    (hg:o.guard=none) (s x:Operand) (hop:o.op=Op.call { callee:=Callee.builtin Builtin.append,args:=#[s,x],argTypes:=#[35,35] })
    (v:Value) (l:List Nat) (hs:a.eval s=v) (hown:z04 w v l) (hl0:0 < l.length)
    (ao:Option Addr) (c:Nat) (ns:List Nat) (m:Nat) (hm:m=ns.length) (hx:a.eval x = .slice ao m c) (hb:Bs w ao c ns) (hnone:ao=none->c=0)
    (b1:l.length+ns.length<=140737488355328)
    (hK:∀v' w',z04 w' v' (l++ns)->Kp (fun k=>v.ownBlock=some k) w w'->(∀g,v'.ownBlock=some g->v.ownBlock=some g\/w.heap.size<=g)->K (a.put o.dst v') w') :
    if Region.wanted o (yielded ops a.tmps)=true then Oper.wp Tryz.prog o a w K Q else E:=by
 by_cases hpos:0 < ns.length
 ·exact z1P w hg s x hop v l hs hown ao c ns m hm hx hb hpos b1 hK
 have hns:ns=[]:=List.length_eq_zero_iff.1 (by omega)
 subst hns
 subst hm
 obtain⟨i0,hi,hz0,hz1,hz2⟩:=info_parts z5G
 have hw:Region.wanted o (yielded ops a.tmps)=true:=by simp[Region.wanted,hg]
 rw[if_pos hw]
 obtain⟨g,cap,rfl⟩:=hown.shape hl0
 cases ao with
 | none =>
   obtain rfl:=hnone rfl
   have hrun:=run_append_owned_none (P:=Tryz.prog) w 0 35 o.type 5 i0 1 Tryz.underlying35 hi _ l.length _ hown.1
   unfold Oper.wp
   simp only[List.length_nil]at hx
   simp[execOp,hop,resolve,invoke,builtin,hs,hx,hrun,Result.andThen]
   exact hK _ w (by simpa using hown) (Kp.rfl) (fun k hk => .inl hk)
 | some ad =>
   obtain⟨_,hcap⟩:True/\l.length<=cap:=⟨trivial,hown.asBs.1.hcap⟩
   obtain⟨w',hrun,r1,r2⟩:=run_append_fits (P:=Tryz.prog) w 0 35 o.type 5 i0 1 Tryz.underlying35 hi hz1 g l.length cap _ hown.1 ad 0 c [] (by simp) (by simp) (by simp) (by omega)
   simp only[List.length_nil]at hx
   unfold Oper.wp
   simp[execOp,hop,resolve,invoke,builtin,hs,hx,hrun,Result.andThen]
   exact hK _ _ ⟨by simpa using r1,by simpa using hown.2⟩ (Kp.grown r2 (fun k hk=>by simpa [Value.ownBlock]using hk)) (fun k hk => .inl (by simpa [Value.ownBlock]using hk))
end Go.Proofs.YtplbmlpdefpplaaGreatDoor
