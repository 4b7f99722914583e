/- Words for byte rows and for memory, shared by the contracts, and more. Conditions: as each says. -/
import Derived.Test.YtplbmlpdefpplaaGreatDoorProg
import Derived.WalkSmall
import Derived.BigQuiet
import Derived.Lib.Hide
import Derived.Lib.SmallJoins
set_option maxHeartbeats 800000
set_option maxRecDepth 100000
namespace Go.Proofs.YtplbmlpdefpplaaGreatDoor
set_option linter.unusedVariables false
set_option linter.unusedSimpArgs false
open Go.RowKit
variable {p:Addr} {ops:Array Oper} {cs:Array Value} {l l':List Nat} {rest:List Oper} {B R c cap fuel n:Nat} {F F':Nat->Prop} {a:Option Addr} {e t:TypeId} {v:Value} {b w w' w1:World}
theorem zH{p:Prop}(h:p):Hid p:=h
abbrev Nb(w w':World):Prop:=Below w.heap.size w w'
theorem Nb.rfl:Nb w w:=Below.refl _ _
theorem Nb.drewN(w:World)(n:Nat):Nb w (w.drewN n):=below_drewN (Below.refl _ _) n
theorem Nb.al(h:Nb w w1)(o:Obj):Nb w (w1.alloc o):=h.alloc h.size o
theorem Nb.st(h:Nb w w1)(hp:w.heap.size<=p.block)(u:Value):Nb w (w1.setCell p u):=h.setCell hp u
theorem Nb.tr{a c:World}(h:Nb a b)(k:Nb b c):Nb a c:=h.trans (k.mono h.size)
structure Bs(w:World)(a:Option Addr)(cap:Nat)(l:List Nat):Prop where
 hcap:l.length<=cap
 hmax:cap<=maxLen
 hbyte:∀x∈l,x < 256
 hcells:0 < l.length->∃b o,a=some ⟨b,o,none⟩/\∀j,j < l.length->w.cell? ⟨b,o+j,none⟩=some (.int .u8 ((l.getD j 0:Nat):Int))
theorem Bs.len(h:Bs w a cap l):l.length<=9223372036854775807:=by
 have h1:=h.hcap
 have h2:=h.hmax
 unfold maxLen at h2
 omega
theorem Bs.getD_lt(h:Bs w a cap l)(j:Nat):l.getD j 0 < 256:=by
 by_cases hj:j < l.length
 ·have e:l.getD j 0=l[j]:=by simp[List.getD,hj]
  rw[e]
  exact h.hbyte _ (List.getElem_mem hj)
 ·simp[List.getD,List.getElem?_eq_none (by omega:l.length<=j)]
theorem Bs.below(h:Bs w a cap l)(hb:Nb w w'):Bs w' a cap l:=by
 refine⟨h.hcap,h.hmax,h.hbyte,fun hl => ?_⟩
 obtain⟨b,o,ha,hc⟩:=h.hcells hl
 exact⟨b,o,ha,fun j hj=>by
  have:=hc j hj
  rw[hb.cell (p:=⟨b,o+j,none⟩) (World.block_lt_of_cell? _ _ this)]
  exact this⟩
theorem Bs.nil(w:World):Bs w none 0 []:=⟨Nat.le_refl _,by simp[maxLen],by simp,by simp⟩
structure Kp(F:Nat->Prop)(w w':World):Prop where
 os:w'.os=w.os
 tape:w'.tape=w.tape
 output:w'.output=w.output
 size:w.heap.size<=w'.heap.size
 block:∀k,k < w.heap.size->¬F k->w'.heap[k]? = w.heap[k]?
theorem Kp.rfl:Kp F w w:=⟨Eq.refl _,Eq.refl _,Eq.refl _,Nat.le_refl _,fun _ _ _=>Eq.refl _⟩
theorem Kp.tr{a c:World}(h:Kp F a b)(k:Kp F' b c)(hF:∀k,F' k->F k\/a.heap.size<=k):Kp F a c :=
 ⟨k.os.trans h.os,k.tape.trans h.tape,k.output.trans h.output,Nat.le_trans h.size k.size,fun i hi hn=>(k.block i (Nat.lt_of_lt_of_le hi h.size) (fun hf=>by rcases hF i hf with h1 | h1;exact hn h1;omega)).trans (h.block i hi hn)⟩
theorem Kp.mono{a:World}(h:Kp F a b)(hF:∀k,k < a.heap.size->F k->F' k):Kp F' a b:=⟨h.os,h.tape,h.output,h.size,fun i hi hn=>h.block i hi (fun hf=>hn (hF i hi hf))⟩
theorem Kp.ofNb(h:Nb w w'):Kp F w w':=⟨h.os,h.tape,h.output,h.size,fun k hk _=>h.block k hk⟩
theorem Kp.toBelow(h:Kp F w w')(hB:B<=w.heap.size)(hF:∀k,F k->B<=k):Below B w w' :=
 ⟨h.os,h.tape,h.output,h.size,fun k hk=>h.block k (by omega) (fun hf=>by have:=hF k hf;omega)⟩
theorem Kp.grown{row:Option Nat}(hg:w.grownBy w' row)(hF:∀k,row=some k->F k):Kp F w w' :=
 ⟨hg.os,hg.tape,hg.output,hg.size,fun k hk hn=>hg.block k hk (fun e=>hn (hF k e.symm))⟩
theorem Kp.set{u:Value}(hF:F p.block):Kp F w (w.setCell p u) :=
 ⟨Eq.refl _,Eq.refl _,Eq.refl _,by simp[World.setCell],fun k _ hn=>Below.heap_setCell _ _ _ _ (fun e=>hn (e ▸ hF))⟩
theorem Kp.alloc{F:Nat->Prop}{w:World}{o:Obj}:Kp F w (w.alloc o):=Kp.ofNb ((Below.refl _ _).alloc (Nat.le_refl _) o)
def Blk(w:World)(R:Nat)(cs:Array Value)(t:TypeId):Prop:=w.heap[R]? = some (.cells cs t (0,0))
theorem Blk.lt(h:Blk w R cs t):R < w.heap.size:=(Array.getElem?_eq_some_iff.1 h).1
theorem Blk.cell{w:World}{R:Nat}{cs:Array Value}{t:TypeId}(h:Blk w R cs t)(j:Nat):w.cell? ⟨R,j,none⟩=cs[j]? := by
 unfold Blk at h
 simp[World.cell?,h]
theorem Blk.frozen{w:World}{R:Nat}{cs:Array Value}{t:TypeId}(h:Blk w R cs t)(j:Nat):w.frozen? ⟨R,j,none⟩=false:=by
 unfold Blk at h
 simp[World.frozen?,h]
theorem Blk.set(h:Blk w R cs t)(j:Nat)(u:Value):Blk (w.setCell ⟨R,j,none⟩ u) R (cs.setIfInBounds j u) t:=by
 unfold Blk at *
 simp[World.setCell,Array.getElem?_modify,h]
theorem Blk.keep(h:Blk w R cs t)(hk:Kp F w w')(hn:¬F R):Blk w' R cs t:=(hk.block R h.lt hn).trans h
theorem Blk.nb(h:Blk w R cs t)(hk:Nb w w'):Blk w' R cs t:=(hk.block R h.lt).trans h
theorem Blk.new(w:World)(cs:Array Value)(t:TypeId):Blk (w.alloc (.cells cs t)) w.heap.size cs t:=heap_alloc_new w _
theorem Blk.other(h:Blk w R cs t)(hp:R≠p.block)(u:Value):Blk (w.setCell p u) R cs t:=(Below.heap_setCell _ _ _ _ hp).trans h
theorem z5G:(Tryz.prog.info? 5).map (fun i=>(i.zero,i.size,i.bytes))=some (some (.int .u8 0),1,1):=by kernel_rfl
def z04(w:World)(v:Value)(l:List Nat):Prop:=w.ownsRow 0 5 1 v l.length (l.map fun x:Nat=>Value.int .u8 (x:Int))/\∀x∈l,x < 256
theorem z04.keep(h:z04 w v l)(hk:Kp F w w')(hn:∀g,v.ownBlock=some g->¬F g):z04 w' v l:=by
 obtain⟨⟨h1,h2⟩,h3⟩:=h
 refine⟨⟨h1,?_⟩,h3⟩
 rcases h2 with h2 | ⟨g,cap,cur,rfl,hb,hg,r⟩
 ·exact .inl h2
 ·exact .inr ⟨g,cap,cur,rfl,hb,(hk.block g (Array.getElem?_eq_some_iff.1 hg).1 (hn g rfl)).trans hg,r⟩
theorem z04.lt{w:World}{v:Value}{l:List Nat}(h:z04 w v l){g:Nat}(hg:v.ownBlock=some g):g < w.heap.size:=(h.1.lt g hg).2
theorem z04.frozen{w:World}{v:Value}{l:List Nat}(h:z04 w v l){g:Nat}(hg:v.ownBlock=some g)(j:Nat):w.frozen? ⟨g,j,none⟩=false:=by
 rcases h.1.2 with ⟨rfl,h2⟩ | ⟨g',cap,cur,rfl,hb,hh,r⟩
 ·simp[Value.ownBlock]at hg
 ·simp[Value.ownBlock]at hg
  subst hg
  simp[World.frozen?,hh]
theorem z04.setByte(h:z04 w v l){g:Nat}(hg:v.ownBlock=some g)(j:Nat)(hj:j < l.length)(y:Nat)(hy:y < 256):z04 (w.setCell ⟨g,j,none⟩ (.int .u8 y)) v (l.set j y):=by
 obtain⟨⟨h1,h2⟩,h3⟩:=h
 refine⟨⟨by simp,?_⟩,fun x hx=>by rcases List.mem_or_eq_of_mem_set hx with h | rfl;exact h3 x h;exact hy⟩
 rcases h2 with ⟨rfl,h2⟩ | ⟨g',cap,cur,rfl,hb,hh,hn,hm,hs,ht⟩
 ·simp[Value.ownBlock]at hg
 ·simp[Value.ownBlock]at hg
  subst hg
  refine .inr ⟨g',cap,cur.setIfInBounds j (.int .u8 y),by simp,hb,by simp[World.setCell,Array.getElem?_modify,hh],by simpa using hn,hm,by simpa using hs,?_⟩
  rw[Nat.mul_one]at ht
  rw[List.length_set,Nat.mul_one,Array.toList_setIfInBounds,List.take_set,ht,List.map_set]
theorem z04.bs(h:z04 w v l):∃a cap,v = .slice a l.length cap/\Bs w a cap l/\(∀b o s,a=some ⟨b,o,s⟩->v.ownBlock=some b):=by
 rcases h.1.2 with ⟨rfl,h2⟩ | ⟨g,cap,cur,rfl,hb,hg,hn,hcap,hs,ht⟩
 ·have hl:l=[]:=List.length_eq_zero_iff.1 h2
  subst hl
  exact⟨none,0,rfl,Bs.nil w,by simp⟩
 ·refine⟨some ⟨g,0,none⟩,cap,rfl,⟨hn,hcap,h.2,fun _=>⟨g,0,rfl,fun j hj => ?_⟩⟩,by rintro b o s e;cases e;rfl⟩
  have hc:=h.1.cells (g:=g) rfl j (.int .u8 ((l.getD j 0:Nat):Int)) (by simp[List.getD,hj])
  rw[Addr.add_lit]at hc
  exact hc
theorem zbw{k:IntKind}{a b:Int}(h:a=b):Ending.returned (.int k a) = .returned (.int k b):=by rw[h]
theorem z20{size:Nat}{xs:List Value}(h:w.ownsRow B e size v n xs):w.ownsRow 0 e size v n xs:=by
 obtain⟨h1,h2⟩:=h
 refine⟨h1,?_⟩
 rcases h2 with h2 | ⟨g,cap,cur,hv,_,r⟩
 ·exact .inl h2
 ·exact .inr ⟨g,cap,cur,hv,Nat.zero_le _,r⟩
theorem z39 {P:Program} (w:World) {o:Oper} {a:Act} {Q:Exit->Act->World->Prop}
    (hg:o.guard=none) (s x:Operand) (t:TypeId) (hop:o.op=Op.call { callee:=Callee.builtin Builtin.append,args:=#[s,x],argTypes:=#[t,t] })
    (e:TypeId) (i:TypeInfo) (z:Value) (size bytes:Nat) (h1:P.underlying t=some (.slice e)) (h2:P.info? e=some i) (h3:i.zero=some z) (h4:i.size=size) (h5:i.bytes=bytes) (h6:z.cells.size=size) (h7:0 < size)
    (v:Value) (n:Nat) (xs:List Value) (hs:a.eval s=v) (hown:w.ownsRow 0 e size v n xs)
    (ao:Option Addr) (m c:Nat) (news:List Value) (hx:a.eval x = .slice ao m c) (hn:news.length=m*size) (hnone:ao=none->m=0/\c=0)
    (hc:∀ad,ao=some ad->∀j u,news[j]? = some u->w.cell? (ad.add j)=some u) (h1c:∀u∈news,u.oneCell'=true)
    (b1:n+m<=maxLen) (b2:(n+m)*bytes<=140737488355328)
    (hK:∀v' w',w'.ownsRow 0 e size v' (n+m) (xs++news)->w.grownBy w' v.ownBlock->(∀g,v'.ownBlock=some g->v.ownBlock=some g\/w.heap.size<=g)->wpList P ops Q rest (a.put o.dst v') w') :
    wpList P ops Q (o::rest) a w:=by
 have hnew:∀v' w',w'.ownsRow w.heap.size e size v' (n+m) (xs++news)->w.grownBy w' none->wpList P ops Q rest (a.put o.dst v') w':=fun v' w' ho hgr =>
  hK v' w' (z20 ho) ⟨hgr.os,hgr.tape,hgr.output,hgr.size,fun k hk _=>hgr.block k hk (by simp)⟩ (fun g hg => .inr (ho.lt g hg).1)
 rcases hown.2 with ⟨rfl,rfl⟩ | ⟨g,cap,cur,rfl,hbg,hgg,hnc,hcm,hcs,htake⟩
 ·by_cases hm:m=0
  ·subst hm
   have hnews:news=[]:=List.eq_nil_of_length_eq_zero (by simpa using hn)
   subst hnews
   cases ao with
   | none =>
     obtain⟨_,rfl⟩:=hnone rfl
     refine wpList_plain hg fun K hK' => ?_
     have hrun:=run_append_owned_none (P:=P) w 0 t o.type e i size h1 h2 _ 0 xs hown
     unfold Oper.wp
     simp[execOp,hop,resolve,invoke,builtin,hs,hx,hrun,Result.andThen]
     exact hK' _ _ (by simpa using hK (.slice none 0 0) w (by simpa using hown) (World.grownBy.refl _ _) (by simp[Value.ownBlock]))
   | some ad =>
     refine wpList_append_own w hg s x t hop 0 e i z size bytes h1 h2 h3 h4 h5 h6 h7 _ 0 xs hs hown ad 0 c [] hx (by simp) (by simp) (by simp) b1 b2 (Nat.zero_le _) fun v' w' ho hgr hv => ?_
     refine hK v' w' ho hgr ?_
     obtain rfl:=hv.2 ⟨rfl,rfl⟩
     simp[Value.ownBlock]
  ·cases ao with
   | none=>exact absurd (hnone rfl).1 hm
   | some ad =>
     have hxs:xs=[]:=List.eq_nil_of_length_eq_zero (by simpa using hown.1)
     subst hxs
     exact wpList_append_grows w hg s x t hop e i z size bytes h1 h2 h3 h4 h5 h6 h7 none 0 0 [] hs (fun _=>⟨rfl,rfl⟩) (by simp) (by simp) ad m c news hx hn (hc ad rfl) h1c (by omega) b1 b2 hnew
 ·by_cases hroom:n+m<=cap
  ·exact wpList_append_fits_any w hg s x t hop 0 e i size h1 h2 h4 g n cap xs hs hown ao m c news hx hn hnone hc h1c hroom fun w' ho hgr=>hK _ w' ho hgr (fun k hk => .inl (by simpa [Value.ownBlock]using hk))
  ·cases ao with
   | none =>
     have:=(hnone rfl).1
     omega
   | some ad =>
     exact wpList_append_grows w hg s x t hop e i z size bytes h1 h2 h3 h4 h5 h6 h7 (some ⟨g,0,none⟩) n cap xs hs (by simp) hown.1 (fun b hb=>by cases hb;exact hown.cells (g:=g) rfl) ad m c news hx hn (hc ad rfl) h1c (by omega) b1 b2 hnew
theorem zd (w:World) {o:Oper} {a:Act} {Q:Exit->Act->World->Prop}
    (hg:o.guard=none) (s x:Operand) (hop:o.op=Op.call { callee:=Callee.builtin Builtin.append,args:=#[s,x],argTypes:=#[35,35] })
    (v:Value) (l:List Nat) (hs:a.eval s=v) (hown:z04 w v l)
    (ao:Option Addr) (c:Nat) (ns:List Nat) (m:Nat) (hm:m=ns.length) (hx:a.eval x = .slice ao m c) (hb:Bs w ao c ns) (hnone:ao=none->m=0/\c=0)
    (b1:l.length+ns.length<=140737488355328)
    (hK:∀v' w',z04 w' v' (l++ns)->Kp (fun k=>v.ownBlock=some k) w w'->(∀g,v'.ownBlock=some g->v.ownBlock=some g\/w.heap.size<=g)->wpList Tryz.prog ops Q rest (a.put o.dst v') w') :
    wpList Tryz.prog ops Q (o::rest) a w:=by
 obtain⟨i0,hi,hz0,hz1,hz2⟩:=info_parts z5G
 subst hm
 refine z39 w hg s x 35 hop 5 i0 (.int .u8 0) 1 1 Tryz.underlying35 hi hz0 hz1 hz2 rfl (by decide) v l.length _ hs hown.1 ao ns.length c (ns.map fun x:Nat=>Value.int .u8 (x:Int)) hx (by simp) hnone ?_ ?_ (by unfold maxLen;omega) (by omega) ?_
 ·intro ad had j u hu
  have hj:j < ns.length:=by
   have:=(List.getElem?_eq_some_iff.1 hu).1
   simpa using this
  obtain⟨b,o,rfl,hcell⟩:=hb.hcells (by omega)
  obtain rfl:=Option.some.inj had
  rw[Addr.add_lit,hcell j hj]
  rw[<- hu]
  simp[List.getD,hj]
 ·intro u hu
  obtain⟨y,_,rfl⟩:=List.mem_map.1 hu
  rfl
 ·intro v' w' ho hgr hbl
  refine hK v' w' ⟨by simpa using ho,?_⟩ (Kp.grown hgr (fun k hk=>hk)) hbl
  intro y hy
  rcases List.mem_append.1 hy with h | h
  ·exact hown.2 y h
  ·exact hb.hbyte y h
theorem z04.shape(h:z04 w v l)(hl:0 < l.length):∃g cap,v = .slice (some ⟨g,0,none⟩) l.length cap:=by
 rcases h.1.2 with ⟨_,h2⟩ | ⟨g,cap,cur,hv,_⟩
 ·omega
 ·exact⟨g,cap,hv⟩
theorem Bs.one(w:World)(x:Nat)(hx:x < 256)(t:TypeId):Bs (w.alloc (.cells #[.int .u8 (x:Int)] t)) (some ⟨w.heap.size,0,none⟩) 1 [x] :=
 ⟨Nat.le_refl _,by simp[maxLen],by simpa using hx,fun _=>⟨_,_,rfl,fun j hj=>by
  have:j=0:=by simpa using hj
  subst this
  simp⟩⟩
def z2V(R:Nat)(v:Value)(k:Nat):Prop:=k=R\/v.ownBlock=some k
structure z1k(w:World)(t:TypeId)(R:Nat)(v:Value)(l:List Nat):Prop where
 blk:Blk w R #[v] t
 own:z04 w v l
 ne:v.ownBlock≠some R
theorem z1k.keep{F:Nat->Prop}{w w':World}{t:TypeId}{R:Nat}{v:Value}{l:List Nat}(h:z1k w t R v l)(hk:Kp F w w')(hn:∀k,z2V R v k->¬F k):z1k w' t R v l :=
 ⟨h.blk.keep hk (hn R (.inl rfl)),h.own.keep hk (fun g hg=>hn g (.inr hg)),h.ne⟩
theorem z1k.lt{w:World}{t:TypeId}{R:Nat}{v:Value}{l:List Nat}(h:z1k w t R v l):∀k,z2V R v k->k < w.heap.size:=by
 rintro k (rfl | hk)
 ·exact h.blk.lt
 ·exact h.own.lt hk
def zm(w:World)(t:TypeId)(R:Nat)(v:Value)(l:List Nat)(w':World):Prop :=
 ∃v',z1k w' t R v' l/\Kp (z2V R v) w w'/\∀k,z2V R v' k->z2V R v k\/w.heap.size<=k
structure zkZ(w:World)(t:TypeId)(R o:Nat)(cs:Array Value)(v:Value)(l:List Nat):Prop where
 blk:Blk w R cs t
 here:cs[o]? = some v
 own:z04 w v l
 ne:v.ownBlock≠some R
def z7T(w:World)(t:TypeId)(R o:Nat)(cs:Array Value)(v:Value)(l:List Nat)(w':World):Prop :=
 ∃v',zkZ w' t R o (cs.setIfInBounds o v') v' l/\Kp (z2V R v) w w'/\∀k,z2V R v' k->z2V R v k\/w.heap.size<=k
theorem zhq (R o:Nat) (t:TypeId) (cs:Array Value) (v:Value) (l:List Nat) (x:Nat) (w:World) (h:zkZ w t R o cs v l) (hx:x < 256) (hl:l.length < 70368744177664) :
    Calls Tryz.prog 203 #[.pointer (some ⟨R,o,none⟩),.int .u8 x] w fun e w'=>e = .returned (.tuple #[])/\z7T w t R o cs v (l++[x]) w':=by
 have c0:w.cell? ⟨R,o,none⟩=some v:=(h.blk.cell o).trans h.here
 have f0:=h.blk.frozen o
 have hRlt:=h.blk.lt
 have hal:Kp (fun _=>False) w (w.alloc (.cells #[.int .u8 (x:Int)] 5)):=Kp.alloc
 have hown:=h.own.keep hal (by simp)
 have hbl:=h.blk.keep hal (by simp)
 have hne:=h.ne
 have HERE:=zH h.here
 clear h
 go_enter Tryz.func203,Tryz.ntmps203
 go_wp2_with (at_builtin;refine zd _ rfl (.tmp 8) (.tmp 10) rfl v l rfl hown _ _ [x] 1 rfl rfl (Bs.one w x hx _) (by simp) (by simp;omega) ?_)
 intro v' w1 hown' hk hfr
 obtain⟨g,cap,rfl⟩:=hown'.shape (by simp)
 have hbl':=hbl.keep hk hne
 have hg:g≠R:=by
  rintro rfl
  rcases hfr g rfl with h1 | h1
  ·exact hne h1
  ·have:=hal.size;omega
 have c1:w1.cell? ⟨R,o,none⟩=some v:=(hbl'.cell o).trans HERE.out
 have f1:=hbl'.frozen o
 have ho:o < cs.size:=(Array.getElem?_eq_some_iff.1 HERE.out).1
 have hfin:z7T w t R o cs v (l++[x]) (w1.setCell ⟨R,o,none⟩ (.slice (some ⟨g,0,none⟩) (l++[x]).length cap)):=by
  refine⟨_,⟨hbl'.set o _,by simp[ho],hown'.keep (Kp.set (F:=(·=R)) rfl) (by simpa [Value.ownBlock]using hg),by simpa [Value.ownBlock]using hg⟩,?_,?_⟩
  ·exact((hal.mono (fun _ _ h=>h.elim)).tr (hk.mono (fun k _ h => .inr h)) (fun k h => .inl h)).tr (Kp.set (F:=(·=R)) rfl) (fun k h => .inl (.inl h))
  ·rintro k (rfl | hk)
   ·exact .inl (.inl rfl)
   ·rcases hfr k hk with h1 | h1
    ·exact .inl (.inr h1)
    ·exact .inr (by omega)
 clear hown' hk hfr hbl' hal hown hbl
 go_wp2
 go_end0
 exact⟨rfl,by simpa using hfin⟩
theorem zcu (R:Nat) (v:Value) (l:List Nat) (x:Nat) (w:World) (h:z1k w 242 R v l) (hx:x < 256) (hl:l.length < 70368744177664) :
    Calls Tryz.prog 203 #[.pointer (some ⟨R,0,none⟩),.int .u8 x] w fun e w'=>e = .returned (.tuple #[])/\zm w 242 R v (l++[x]) w' :=
 (zhq R 0 242 #[v] v l x w ⟨h.blk,rfl,h.own,h.ne⟩ hx hl).mono fun _ _ ⟨he,v',hr,hk,hf⟩=>⟨he,v',⟨by simpa using hr.blk,hr.own,hr.ne⟩,hk,hf⟩
def zc(n size:Nat):List Nat:=(List.range size).map fun i=>n / 2^(size - 1 - i)%2
theorem zb(n size:Nat):(zc n size).length=size:=by simp[zc]
theorem z2Q(n size k:Nat)(h:k < size):(zc n size).take (k+1)=(zc n size).take k++[n / 2^(size - 1 - k)%2]:=by
 rw[List.take_add_one,List.getElem?_eq_getElem (by rw[zb];exact h)]
 simp[zc]
theorem z7x(n size:Nat):∀x∈zc n size,x < 2:=by
 intro x hx
 obtain⟨i,_,rfl⟩:=List.mem_map.1 hx
 omega
theorem z2z (R:Nat) (v:Value) (l:List Nat) (n size:Nat) (w:World) (h:z1k w 242 R v l) (hn:n < 2^64) (hs:size<=64) (hl:l.length < 70368744170000) :
    Calls Tryz.prog 187 #[.pointer (some ⟨R,0,none⟩),.int .u64 n,.int .i64 size] w fun e w'=>e = .returned (.tuple #[])/\zm w 242 R v (l++zc n size) w':=by
 go_enter Tryz.func187,Tryz.ntmps187
 go_wp2
 go_loopw [8] (fun i wr=>∃k:Nat,k<=size/\i = .int .i64 k/\zm w 242 R v (l++(zc n size).take k) wr) (fun i _=>size - (intOf i).toNat)
 case atStart=>exact⟨0,Nat.zero_le _,rfl,v,by simpa using h,Kp.rfl,fun k hk => .inl hk⟩
 case round =>
  obtain⟨k,hk,rfl,v1,hr,hkp,hfo⟩:=hrel
  have hX:Hid (n < 2^64):=zH hn
  clear hn h
  by_cases hlt:k < size
  ·have hbit:bits BinOp.and IntKind.u64 ((n:Int) / 2^(size - 1 - k)) 1%256=((n / 2^(size - 1 - k)%2:Nat):Int):=by
    have e:((n:Int) / 2^(size - 1 - k))=((n / 2^(size - 1 - k):Nat):Int):=by push_cast;rfl
    have:n / 2^(size - 1 - k)<=n:=Nat.div_le_self _ _
    have:=hX.out
    rw[e]
    generalize n / 2^(size - 1 - k)=q at *
    rw[and_one_u64 _ (by omega) (by omega)]
    omega
   have ht:=z2Q n size k hlt
   have HB:=zH hbit
   have HT:=zH ht
   clear hbit ht
   go_wp2_with fail
   rw[HB.out]
   refine(zcu R v1 (l++(zc n size).take k) (n / 2^(size - 1 - k)%2) wr hr (by omega) (by simp[zb];omega)).mono ?_
   rintro e w' ⟨rfl,v2,hr2,hkp2,hfo2⟩
   go_wp2
   go_roundw
   case rel =>
    refine⟨k+1,by omega,by go_num,v2,?_,hkp.tr hkp2 hfo,fun j hj => ?_⟩
    ·rw[HT.out,<- List.append_assoc]
     exact hr2
    ·rcases hfo2 j hj with h1 | h1
     ·exact hfo j h1
     ·exact .inr (Nat.le_trans hkp.size h1)
   case measure=>simp[intOf];omega
  ·obtain rfl:k=size:=by omega
   go_wp2
   go_end0
   exact⟨rfl,v1,by rw[List.take_of_length_le (by simp[zb])]at hr;exact hr,hkp,hfo⟩
theorem z8F (R:Nat) (v:Value) (l:List Nat) (x:Nat) (w:World) (h:z1k w 242 R v l) (hx:x < 256) (hl:l.length < 70368744170000) :
    Calls Tryz.prog 189 #[.pointer (some ⟨R,0,none⟩),.int .u8 x] w fun e w'=>e = .returned (.tuple #[])/\zm w 242 R v (l++zc x 8) w':=by
 go_enter Tryz.func189,Tryz.ntmps189
 go_wp2_with fail
 refine(z2z R v l x 8 w h (by omega) (by omega) hl).mono ?_
 rintro e w' ⟨rfl,hs⟩
 go_wp2
 go_end0
 exact⟨rfl,hs⟩
theorem z33(w:World)(n:Nat)(hn:n<=140737488355328):(Instr.makeSlice 35 (.int .i64 0) (.int .i64 (n:Int))).run Tryz.prog w = .ok (.slice (some ⟨w.heap.size,0,none⟩) 0 n) (w.alloc (.cells (madeCells #[.int .u8 0] n) 5)):=by
 obtain⟨i0,hi,hz0,hz1,hz2⟩:=info_parts z5G
 have h:=run_make w 35 5 i0 (.int .u8 0) Tryz.underlying35 hi hz0 .i64 .i64 0 n (by omega) (by omega) (by rw[hz2];omega) (by omega)
 rw[hz1]at h
 simpa [Value.cells]using h
theorem z04.made(w:World)(n:Nat)(hn:n<=140737488355328):z04 (w.alloc (.cells (madeCells #[.int .u8 0] n) 5)) (.slice (some ⟨w.heap.size,0,none⟩) 0 n) [] :=
 ⟨World.ownsRow_made w _ n (Nat.zero_le _) (by unfold maxLen;omega) (by simp[size_madeCells]),by simp⟩
theorem z4d (n:Nat) (w:World) (hn:n<=140737488355328) :
    Calls Tryz.prog 186 #[.int .i64 n] w fun e w'=>(∃g c,e = .returned (.agg #[.slice (some ⟨g,0,none⟩) 0 c])/\z04 w' (.slice (some ⟨g,0,none⟩) 0 c) []/\w.heap.size<=g)/\Nb w w':=by
 have hm:∀w,(Instr.makeSlice 35 (.int .i64 0) (.int .i64 (n:Int))).run Tryz.prog w=_:=fun w=>z33 w n hn
 have hfin:=z04.made (w.alloc (.cells #[.slice (some ⟨w.heap.size+1,0,none⟩) 0 n] 242)) n hn
 have HF:=zH hfin
 clear hfin
 go_enter Tryz.func186,Tryz.ntmps186
 go_wp2
 refine bodyPost_ret (v := .agg #[.slice (some ⟨w.heap.size+1,0,none⟩) 0 n]) (by simp[results,Tryz.results186,go_sem]) rfl ⟨⟨_,_,rfl,?_,?_⟩,?_⟩
 ·simpa using HF.out
 ·omega
 ·exact(Nb.rfl.al _).al _
theorem zid (n size:Nat) (w:World) (hs:size<=64) (hn:n < 2^size) :
    Calls Tryz.prog 172 #[.int .u64 n,.int .i64 size] w fun e w'=>(∃a c,e = .returned (.tuple #[.slice a size c,.int .i64 0])/\Bs w' a c (zc n size))/\Nb w w':=by
 have hn64:n < 2^64:=Nat.lt_of_lt_of_le hn (Nat.pow_le_pow_right (by omega) hs)
 have hsh:((n:Int) / 2^size != 0)=false:=by
  have:((n:Int) / 2^size)=((n / 2^size:Nat):Int):=by push_cast;rfl
  rw[this,Nat.div_eq_of_lt hn];rfl
 have d1:decide ((size:Int) < 0)=false:=by simp
 have d2:decide (64 < (size:Int))=false:=by simp;omega
 have HN:=zH hn64
 clear hn hn64
 go_enter Tryz.func172,Tryz.ntmps172
 go_wp2_with fail
 refine(z4d size _ (by omega)).mono ?_
 rintro e w1 ⟨⟨g,c,rfl,ho,hg⟩,hnb⟩
 have hal:Kp (fun _=>False) w1 (w1.alloc (.cells #[.slice (some ⟨g,0,none⟩) 0 c] 242)):=Kp.alloc
 have hlt:=ho.lt (g:=g) rfl
 have hrow:z1k (w1.alloc (.cells #[.slice (some ⟨g,0,none⟩) 0 c] 242)) 242 w1.heap.size (.slice (some ⟨g,0,none⟩) 0 c) [] :=
  ⟨Blk.new _ _ _,ho.keep hal (by simp),by simp[Value.ownBlock];omega⟩
 have HR:=zH hrow
 clear hrow ho hal
 go_wp2_with fail
 refine(z2z w1.heap.size _ [] n size _ HR.out HN.out hs (by simp)).mono ?_
 rintro e w2 ⟨rfl,v2,hr2,hkp,_⟩
 obtain⟨a,cap,rfl,hbs,_⟩:=hr2.own.bs
 have c0:w2.cell? ⟨w1.heap.size,0,none⟩=_:=hr2.blk.cell 0
 have hnb2:Nb w w2:=(hnb.al _).trans (hkp.toBelow (Nat.le_trans hnb.size (by simp)) (by rintro k (rfl | hk);exact hnb.size;simp[Value.ownBlock]at hk;omega))
 rw[List.nil_append]at hbs c0
 rw[zb]at c0
 clear hr2 hkp
 go_wp2
 go_ret2
 exact⟨⟨a,cap,rfl,hbs⟩,hnb2⟩
theorem z80 (F:Nat) (p:Value) (a:Option Addr) (cap:Nat) (l:List Nat) (I:Nat->World->Prop) (w:World) (hL:l.length<=9223372036854775807) (h0:I 0 w)
    (hbs:∀k w,I k w->Bs w a cap l)
    (hcf:∀args w,(callFunc F args).run Tryz.prog w = .ok (.enter F args) w)
    (hstep:∀k x w,I k w->l[k]? = some x->Calls Tryz.prog F #[p,.int .u8 (x:Int)] w fun e w'=>e = .returned (.tuple #[])/\I (k+1) w') :
    Calls Tryz.prog 188 #[.slice a l.length cap,.func (.func F) #[p] #[]] w fun e w'=>e = .returned (.tuple #[])/\I l.length w':=by
 have HB:=zH hbs
 have HS:=zH hstep
 clear hbs hstep
 go_enter Tryz.func188,Tryz.ntmps188
 go_wp2
 go_loopw [7] (fun i wr=>∃k:Nat,k<=l.length/\i = .int .i64 k/\I k wr) (fun i _=>l.length - (intOf i).toNat)
 case atStart=>exact⟨0,Nat.zero_le _,rfl,h0⟩
 case round =>
  obtain⟨k,hk,rfl,hI⟩:=hrel
  by_cases hlt:k < l.length
  ·obtain⟨b,o,rfl,hc⟩:=(HB.out k wr hI).hcells (by omega)
   obtain⟨x,hx⟩:∃x,l[k]? = some x:=⟨l[k],by simp[hlt]⟩
   have c1:=hc k hlt
   rw[show l.getD k 0=x from by simp[List.getD,hx]]at c1
   have HX:=zH hx
   clear hc hx
   go_wp2_with fail
   refine(HS.out k x wr hI HX.out).mono ?_
   rintro e w' ⟨rfl,hI'⟩
   go_wp2
   go_roundw
   case rel=>exact⟨k+1,by omega,by go_num,hI'⟩
   case measure=>simp[intOf];omega
  ·obtain rfl:k=l.length:=by omega
   go_wp2
   go_end0
   exact⟨rfl,hI⟩
def chk(l:List Nat):Bool:=decide (l.length<=65536)&&l.all (fun x=>decide (x<=1))
theorem z1h(h:chk l=true):l.length<=65536:=by simp[chk]at h;exact h.1
theorem z0C(h:chk l=true):∀x∈l,x<=1:=by simp[chk]at h;exact h.2
theorem z3g (a:Option Addr) (cap:Nat) (l:List Nat) (w:World) (h:Bs w a cap l) (hc:chk l=true) :
    Calls Tryz.prog 162 #[.slice a l.length cap] w fun e w'=>e = .returned (.int .i64 0)/\w=w':=by
 have h1:=z1h hc
 have h2:=zH (z0C hc)
 clear hc
 go_enter Tryz.func162,Tryz.ntmps162
 go_wp2
 go_loop [10] (fun i=>∃k:Nat,k<=l.length/\i = .int .i64 k) (fun i=>l.length - (intOf i).toNat)
 case atStart=>exact⟨0,Nat.zero_le _,rfl⟩
 case round =>
  obtain⟨k,hk,rfl⟩:=hrel
  by_cases hlt:k < l.length
  ·obtain⟨b,o,rfl,hcl⟩:=h.hcells (by omega)
   obtain⟨x,hx⟩:∃x,l[k]? = some x:=⟨l[k],by simp[hlt]⟩
   have c1:=hcl k hlt
   rw[show l.getD k 0=x from by simp[List.getD,hx]]at c1
   have hx1:x<=1:=h2.out x (List.mem_of_getElem? hx)
   clear hcl hx h
   go_wp2
   go_round
   case rel=>exact⟨k+1,by omega,by go_num⟩
   case measure=>simp[intOf];omega
  ·obtain rfl:k=l.length:=by omega
   go_wp2
   go_ret
   exact⟨rfl,rfl⟩
theorem z5e (a:Option Addr) (cap:Nat) (l:List Nat) (w:World) (h:Bs w a cap l) (hc:chk l=false) :
    Calls Tryz.prog 162 #[.slice a l.length cap] w fun e w'=>e = .returned (.int .i64 2)/\w=w':=by
 have hL:=h.len
 by_cases h1:l.length<=65536
 ·have h2:¬ ∀k x,k < l.length->l[k]? = some x->x<=1:=by
   intro hall
   have:chk l=true:=by
    simp only[chk,h1,decide_true,Bool.true_and,List.all_eq_true,decide_eq_true_eq]
    intro x hx
    obtain⟨k,hk,rfl⟩:=List.getElem_of_mem hx
    exact hall k _ hk (by simp[hk])
   rw[this]at hc
   cases hc
  have H2:=zH h2
  clear h2 hc
  go_enter Tryz.func162,Tryz.ntmps162
  go_wp2
  go_loop [10] (fun i=>∃k:Nat,k<=l.length/\i = .int .i64 k/\∀j x,j < k->l[j]? = some x->x<=1) (fun i=>l.length - (intOf i).toNat)
  case atStart=>exact⟨0,Nat.zero_le _,rfl,by intro j x hj;omega⟩
  case round =>
   obtain⟨k,hk,rfl,hall⟩:=hrel
   by_cases hlt:k < l.length
   ·obtain⟨b,o,rfl,hcl⟩:=h.hcells (by omega)
    obtain⟨x,hx⟩:∃x,l[k]? = some x:=⟨l[k],by simp[hlt]⟩
    have c1:=hcl k hlt
    rw[show l.getD k 0=x from by simp[List.getD,hx]]at c1
    have HX:=zH hx
    have HA:=zH hall
    clear hcl hx h hall
    by_cases hx1:x<=1
    ·go_wp2
     go_round
     case rel=>exact⟨k+1,by omega,by go_num,fun j y hj hy=>by
      rcases Nat.lt_succ_iff_lt_or_eq.1 hj with h | rfl
      ·exact HA.out j y h hy
      ·rw[HX.out]at hy;cases hy;exact hx1⟩
     case measure=>simp[intOf];omega
    ·go_wp2
     go_ret
     exact⟨rfl,rfl⟩
   ·exact absurd (fun k' x hk' hx=>hall k' x (by omega) hx) H2.out
 ·go_enter Tryz.func162,Tryz.ntmps162
  go_wp2
  go_ret
  exact⟨rfl,rfl⟩
theorem z62 (a:Option Addr) (cap:Nat) (l:List Nat) (w:World) (h:Bs w a cap l) (hc:chk l=true) :
    Calls Tryz.prog 125 #[.slice a l.length cap] w fun e w'=>e = .returned (.int .i64 0)/\w=w':=by
 have h1:=z1h hc
 have h2:=zH (z0C hc)
 clear hc
 go_enter Tryz.func125,Tryz.ntmps125
 go_wp2
 go_loop [10] (fun i=>∃k:Nat,k<=l.length/\i = .int .i64 k) (fun i=>l.length - (intOf i).toNat)
 case atStart=>exact⟨0,Nat.zero_le _,rfl⟩
 case round =>
  obtain⟨k,hk,rfl⟩:=hrel
  by_cases hlt:k < l.length
  ·obtain⟨b,o,rfl,hcl⟩:=h.hcells (by omega)
   obtain⟨x,hx⟩:∃x,l[k]? = some x:=⟨l[k],by simp[hlt]⟩
   have c1:=hcl k hlt
   rw[show l.getD k 0=x from by simp[List.getD,hx]]at c1
   have hx1:x<=1:=h2.out x (List.mem_of_getElem? hx)
   clear hcl hx h
   go_wp2
   go_round
   case rel=>exact⟨k+1,by omega,by go_num⟩
   case measure=>simp[intOf];omega
  ·obtain rfl:k=l.length:=by omega
   go_wp2
   go_ret
   exact⟨rfl,rfl⟩
theorem z8B (a:Option Addr) (cap:Nat) (l:List Nat) (w:World) (h:Bs w a cap l) (hc:chk l=false) :
    Calls Tryz.prog 125 #[.slice a l.length cap] w fun e w'=>e = .returned (.int .i64 2)/\w=w':=by
 have hL:=h.len
 by_cases h1:l.length<=65536
 ·have h2:¬ ∀k x,k < l.length->l[k]? = some x->x<=1:=by
   intro hall
   have:chk l=true:=by
    simp only[chk,h1,decide_true,Bool.true_and,List.all_eq_true,decide_eq_true_eq]
    intro x hx
    obtain⟨k,hk,rfl⟩:=List.getElem_of_mem hx
    exact hall k _ hk (by simp[hk])
   rw[this]at hc
   cases hc
  have H2:=zH h2
  clear h2 hc
  go_enter Tryz.func125,Tryz.ntmps125
  go_wp2
  go_loop [10] (fun i=>∃k:Nat,k<=l.length/\i = .int .i64 k/\∀j x,j < k->l[j]? = some x->x<=1) (fun i=>l.length - (intOf i).toNat)
  case atStart=>exact⟨0,Nat.zero_le _,rfl,by intro j x hj;omega⟩
  case round =>
   obtain⟨k,hk,rfl,hall⟩:=hrel
   by_cases hlt:k < l.length
   ·obtain⟨b,o,rfl,hcl⟩:=h.hcells (by omega)
    obtain⟨x,hx⟩:∃x,l[k]? = some x:=⟨l[k],by simp[hlt]⟩
    have c1:=hcl k hlt
    rw[show l.getD k 0=x from by simp[List.getD,hx]]at c1
    have HX:=zH hx
    have HA:=zH hall
    clear hcl hx h hall
    by_cases hx1:x<=1
    ·go_wp2
     go_round
     case rel=>exact⟨k+1,by omega,by go_num,fun j y hj hy=>by
      rcases Nat.lt_succ_iff_lt_or_eq.1 hj with h | rfl
      ·exact HA.out j y h hy
      ·rw[HX.out]at hy;cases hy;exact hx1⟩
     case measure=>simp[intOf];omega
    ·go_wp2
     go_ret
     exact⟨rfl,rfl⟩
   ·exact absurd (fun k' x hk' hx=>hall k' x (by omega) hx) H2.out
 ·go_enter Tryz.func125,Tryz.ntmps125
  go_wp2
  go_ret
  exact⟨rfl,rfl⟩
def zF(l:List Nat):Nat:=l.foldl (fun n b=>n*2+b) 0
theorem z0S(l:List Nat)(b:Nat):zF (l++[b])=zF l*2+b:=by simp[zF]
theorem z3u(l:List Nat)(h:∀x∈l,x<=1):zF l < 2^l.length:=by
 have key:∀(l:List Nat) (n:Nat),(∀x∈l,x<=1)->l.foldl (fun n b=>n*2+b) n < (n+1)*2^l.length:=by
  intro l
  induction l with
  | nil=>intro n _;simp
  | cons b l ih =>
    intro n hl
    have h1:=ih (n*2+b) (fun x hx=>hl x (by simp[hx]))
    have h2:=hl b (by simp)
    rw[List.foldl_cons,List.length_cons,Nat.pow_succ]
    refine Nat.lt_of_lt_of_le h1 ?_
    rw[Nat.mul_comm (2^l.length) 2,<- Nat.mul_assoc]
    exact Nat.mul_le_mul_right _ (by omega)
 have:=key l 0 h
 simpa [zF]using this
theorem zX{k x:Nat}(h:l[k]? = some x):l.take (k+1)=l.take k++[x]:=by rw[List.take_add_one,h];rfl
theorem zc6 (R n x:Nat) (w:World) (h:Blk w R #[.int .u64 n] 281) (hn:n < 9223372036854775808) (hx:x<=1) :
    Calls Tryz.prog 266 #[.pointer (some ⟨R,0,none⟩),.int .u8 x] w fun e w'=>e = .returned (.tuple #[])/\Blk w' R #[.int .u64 ((n*2+x:Nat):Int)] 281/\Kp (·=R) w w':=by
 have c0:w.cell? ⟨R,0,none⟩=some (.int .u64 n):=h.cell 0
 have f0:=h.frozen 0
 have hR:=h.lt
 have hfin:=h.set 0 (.int .u64 ((n*2+x:Nat):Int))
 have ho:bits BinOp.or IntKind.u64 ((n:Int)*2) (x:Int)=((n*2+x:Nat):Int):=by
  have h1:=bits_or_u64_nat (n*2) x (by omega) (by omega)
  rw[Nat.mul_comm n 2,<- Nat.two_pow_add_eq_or_of_lt (i:=1) (by omega) n]at h1
  rw[<- Nat.mul_comm 2 n]
  simpa [Nat.mul_comm]using h1
 have HO:=zH ho
 have HF:=zH hfin
 clear hfin h ho
 go_enter Tryz.func266,Tryz.ntmps266
 go_wp2
 go_end0
 refine⟨rfl,?_,Kp.set rfl⟩
 rw[HO.out]
 exact HF.out
def z0p(l:List Nat):List Nat:=(List.range (l.length / 8)).map fun i=>zF ((l.drop (8*i)).take 8)
theorem z1Y(l:List Nat):(z0p l).length=l.length / 8:=by simp[z0p]
theorem z7h(l:List Nat)(hb:∀x∈l,x<=1):∀x∈z0p l,x < 256:=by
 intro x hx
 obtain⟨i,_,rfl⟩:=List.mem_map.1 hx
 have:=z3u ((l.drop (8*i)).take 8) (fun x hx=>hb x (List.mem_of_mem_drop (List.mem_of_mem_take hx)))
 refine Nat.lt_of_lt_of_le this (Nat.le_trans (Nat.pow_le_pow_right (by omega) (?_:_<=8)) (by decide))
 rw[List.length_take]
 omega
theorem z6s(l:List Nat)(hb:∀x∈l,x<=1):zc (zF l) l.length=l:=by
 apply List.ext_getElem?
 intro i
 by_cases hi:i < l.length
 ·simp only[zc,List.getElem?_map,List.getElem?_range hi,Option.map_some]
  have key:∀(m:Nat) (l:List Nat),l.length=m->(∀x∈l,x<=1)->∀i,i < m->zF l / 2^(m - 1 - i)%2=l.getD i 0:=by
   intro m
   induction m with
   | zero=>intro l _ _ i hi;omega
   | succ m ih =>
     intro l hl hb i hi
     have hs:l=l.take m++[l.getD m 0]:=by
      have:=zX (l:=l) (k:=m) (x:=l.getD m 0) (by simp[List.getD,hl])
      rw[List.take_of_length_le (by omega)]at this
      exact this
     have hlast:l.getD m 0<=1:=by
      have:l.getD m 0∈l:=by simp[List.getD,hl]
      exact hb _ this
     rw[hs,z0S]
     by_cases him:i=m
     ·subst him
      have e:(l.take i++[l.getD i 0]).getD i 0=l.getD i 0:=by rw[<- hs]
      rw[e,show i+1 - 1 - i=0 from by omega,Nat.pow_zero,Nat.div_one]
      omega
     ·have e:(l.take m++[l.getD m 0]).getD i 0=(l.take m).getD i 0:=by
       simp only[List.getD]
       rw[List.getElem?_append_left (by rw[List.length_take];omega)]
      rw[e,show m+1 - 1 - i=(m - 1 - i)+1 from by omega,Nat.pow_succ,Nat.mul_comm (2^(m - 1 - i)) 2,<- Nat.div_div_eq_div_mul,show(zF (l.take m)*2+l.getD m 0) / 2=zF (l.take m)from by omega]
      exact ih (l.take m) (by rw[List.length_take];omega) (fun x hx=>hb x (List.mem_of_mem_take hx)) i (by omega)
  rw[key l.length l rfl hb i hi]
  simp[List.getD,hi]
 ·rw[List.getElem?_eq_none (by simp[zb];omega),List.getElem?_eq_none (by omega)]
theorem z0q(n size:Nat)(hn:n < 2^size):zF (zc n size)=n:=by
 have key:∀k,k<=size->zF ((zc n size).take k)=n / 2^(size - k):=by
  intro k
  induction k with
  | zero=>intro _;rw[Nat.sub_zero,Nat.div_eq_of_lt hn];simp[zF]
  | succ k ih =>
    intro hk
    rw[z2Q n size k (by omega),z0S,ih (by omega),show size - k=(size - 1 - k)+1 from by omega,show size - (k+1)=size - 1 - k from by omega,Nat.pow_succ,<- Nat.div_div_eq_div_mul]
    omega
 have:=key size (Nat.le_refl _)
 rw[List.take_of_length_le (by rw[zb];exact Nat.le_refl _)]at this
 simpa using this
theorem z3y(l:List Nat)(hl:∀x∈l,x < 256):z0p (l.flatMap fun x=>zc x 8)=l:=by
 have hlen:∀l:List Nat,(l.flatMap fun x=>zc x 8).length=8*l.length:=by
  intro l
  induction l with
  | nil=>rfl
  | cons x l ih=>rw[List.flatMap_cons,List.length_append,ih,zb,List.length_cons];omega
 have hch:∀(l:List Nat) (i:Nat) (x:Nat),l[i]? = some x->((l.flatMap fun x=>zc x 8).drop (8*i)).take 8=zc x 8:=by
  intro l
  induction l with
  | nil=>intro i x h;simp at h
  | cons y l ih =>
    intro i x h
    cases i with
    | zero =>
      simp at h
      subst h
      rw[List.flatMap_cons,Nat.mul_zero,List.drop_zero,List.take_left' (zb _ _)]
    | succ i =>
      rw[List.getElem?_cons_succ]at h
      rw[List.flatMap_cons,show 8*(i+1)=8+8*i from by omega,<- List.drop_drop,List.drop_left' (zb _ _)]
      exact ih i x h
 apply List.ext_getElem?
 intro i
 by_cases hi:i < l.length
 ·have h8:(l.flatMap fun x=>zc x 8).length / 8=l.length:=by rw[hlen];omega
  simp only[z0p,List.getElem?_map,h8,List.getElem?_range hi,Option.map_some]
  rw[hch l i l[i] (by simp[hi]),z0q _ _ (hl _ (List.getElem_mem hi))]
  simp[hi]
 ·rw[List.getElem?_eq_none (by rw[z1Y,hlen];omega),List.getElem?_eq_none (by omega)]
def zj9(l:List Nat)(k:Nat):Prop :=
 k<=l.length/\(∀j,j < k->l.getD (l.length - 1 - j) 0=l.getD (l.length - 1) 0)/\(k < l.length->l.getD (l.length - 1 - k) 0≠l.getD (l.length - 1) 0)
theorem z1Z(w:World)(n:Nat)(hn:n<=140737488355328):(Instr.makeSlice 35 (.int .i64 (n:Int)) (.int .i64 (n:Int))).run Tryz.prog w = .ok (.slice (some ⟨w.heap.size,0,none⟩) n n) (w.alloc (.cells (madeCells #[.int .u8 0] n) 5)):=by
 obtain⟨i0,hi,hz0,hz1,hz2⟩:=info_parts z5G
 have h:=run_make w 35 5 i0 (.int .u8 0) Tryz.underlying35 hi hz0 .i64 .i64 n n (by omega) (by omega) (by rw[hz2];omega) (by omega)
 rw[hz1]at h
 simpa [Value.cells]using h
theorem z2F(n:Nat):(madeCells #[.int .u8 0] n).toList=List.replicate n (.int .u8 0):=by
 apply List.ext_getElem?
 intro i
 by_cases hi:i < n
 ·simp[madeCells,hi,List.getElem?_replicate,Nat.mod_one]
 ·simp[madeCells,hi,List.getElem?_replicate]
theorem z04.full(w:World)(n:Nat)(hn:n<=140737488355328):z04 (w.alloc (.cells (madeCells #[.int .u8 0] n) 5)) (.slice (some ⟨w.heap.size,0,none⟩) n n) (List.replicate n 0):=by
 refine⟨⟨by simp,.inr ⟨w.heap.size,n,madeCells #[.int .u8 0] n,by simp,Nat.zero_le _,heap_alloc_new w _,by simp,by unfold maxLen;omega,by simp[size_madeCells],?_⟩⟩,by simp⟩
 rw[z2F]
 simp
theorem z04.nil(w:World):z04 w (.slice none 0 0) []:=⟨World.ownsRow_nil _ _ _ _,by simp⟩
theorem z04.drewN{w:World}{v:Value}{l:List Nat}(h:z04 w v l)(n:Nat):z04 (w.drewN n) v l:=h
def zf(w w':World)(v:Value)(l:List Nat):Prop:=z04 w' v l/\∀g,v.ownBlock=some g->w.heap.size<=g
theorem zf.keep{w w1 w2:World}{v:Value}{l:List Nat}(h:zf w w1 v l)(hb:Nb w1 w2):zf w w2 v l:=⟨h.1.keep (F:=fun _=>False) (Kp.ofNb hb) (by simp),h.2⟩
theorem Bs.none_len(h:Bs w none c l):l=[]:=by
 cases l with
 | nil=>rfl
 | cons x l =>
   obtain⟨_,_,h,_⟩:=h.hcells (by simp)
   cases h
theorem zf.bs{w w':World}{a:Option Addr}{c:Nat}{l:List Nat}(h:zf w w' (.slice a l.length c) l):Bs w' a c l/\(a=none->c=0):=by
 have h0:=h.1
 obtain⟨a',c',hv,hb,_⟩:=h0.bs
 simp only[Value.slice.injEq,true_and]at hv
 obtain⟨rfl,rfl⟩:=hv
 refine⟨hb,fun ha => ?_⟩
 rcases h0.1.2 with ⟨h1,_⟩ | ⟨g,cap,cur,h1,_⟩
 ·simp only[Value.slice.injEq]at h1
  exact h1.2.2
 ·subst ha
  cases h1
theorem Bs.head(h:Bs w a cap l)(n:Nat):Bs w a cap (l.take n):=by
 have hc:=h.hcap
 refine⟨by rw[List.length_take];omega,h.hmax,fun x hx=>h.hbyte x (List.mem_of_mem_take hx),fun h0 => ?_⟩
 rw[List.length_take]at h0
 obtain⟨b,o,ha,hcl⟩:=h.hcells (by omega)
 refine⟨b,o,ha,fun j hj => ?_⟩
 rw[List.length_take]at hj
 rw[hcl j (by omega)]
 simp[List.getD,show j < n by omega]
theorem Bs.cut{b o:Nat}(h:Bs w (some ⟨b,o,none⟩) cap l)(i n:Nat)(hi:i+n<=l.length):Bs w (some ⟨b,o+i,none⟩) (cap - i) ((l.drop i).take n):=by
 have hlen:((l.drop i).take n).length=n:=by rw[List.length_take,List.length_drop];omega
 have hc:=h.hcap
 have hm:=h.hmax
 refine⟨by omega,by omega,fun x hx=>h.hbyte x (List.mem_of_mem_drop (List.mem_of_mem_take hx)),fun h0=>⟨b,o+i,rfl,fun j hj => ?_⟩⟩
 obtain⟨b',o',he,hcl⟩:=h.hcells (by omega)
 simp only[Option.some.injEq,Addr.mk.injEq,and_true]at he
 obtain⟨rfl,rfl⟩:=he
 have:=hcl (i+j) (by omega)
 rw[Nat.add_assoc,this]
 simp[List.getD,show j < n by omega]
theorem Bs.tail{b o:Nat}(h:Bs w (some ⟨b,o,none⟩) cap l)(i:Nat)(hi:i<=l.length):Bs w (some ⟨b,o+i,none⟩) (cap - i) (l.drop i):=by
 have:=h.cut i (l.length - i) (by omega)
 rwa[List.take_of_length_le (by rw[List.length_drop];omega)]at this
theorem z04.fresh0(w:World):z04 (w.alloc (.cells #[] 5)) (.slice (some ⟨w.heap.size,0,none⟩) 0 0) [] :=
 ⟨⟨by simp,.inr ⟨w.heap.size,0,#[],by simp,Nat.zero_le _,heap_alloc_new w _,Nat.zero_le _,by simp[maxLen],by simp,by simp⟩⟩,by simp⟩
theorem z04.cell{w:World}{g n cap:Nat}{m:List Nat}(h:z04 w (.slice (some ⟨g,0,none⟩) n cap) m)(k:Nat)(hk:k < m.length):w.cell? ⟨g,k,none⟩=some (.int .u8 ((m.getD k 0:Nat):Int)):=by
 obtain⟨a',c',hv,hb,_⟩:=h.bs
 obtain⟨b',o',rfl,hc⟩:=hb.hcells (by omega)
 simp only[Value.slice.injEq,Option.some.injEq,Addr.mk.injEq,and_true]at hv
 obtain⟨⟨rfl,rfl⟩,_,_⟩:=hv
 have:=hc k hk
 rwa[Nat.zero_add]at this
theorem z04.asBs(h:z04 w (.slice a n c) l):Bs w a c l/\n=l.length:=by
 obtain⟨a',c',hv,hb,_⟩:=h.bs
 simp only[Value.slice.injEq]at hv
 obtain⟨rfl,rfl,rfl⟩:=hv
 exact⟨hb,rfl⟩
theorem hcf (F : Nat) (fn : Func) (hf : Tryz.prog.funcs[F]? = some fn) (hb : fn.body.isNone = false) (hn : (fn.name == "runtime.NumGoroutine") = false) : ∀ args w, (callFunc F args).run Tryz.prog w = .ok (.enter F args) w := by
 intro args w
 have h1 : ¬ fn.name = "runtime.NumGoroutine" := by simpa using hn
 have h2:¬fn.body=none:=by intro h;rw[h]at hb;simp at hb
 simp[callFunc,hf,h1,h2]
theorem Bs.ofRow {len:Nat} {zs:List Int}
    (h:(a=none/\len=0/\cap=0/\zs=[])\/∃x,a=some x/\len<=cap/\cap<=maxLen/\zs.length=cap/\(∀i,i < zs.length->w.cell? (x.add i)=some (.int .u8 (zs.getD i 0)))/\∀n∈zs,(Lit.int .u8 n).wf=true) :
    ∃l:List Nat,len=l.length/\Bs w a cap l:=by
 rcases h with ⟨rfl,rfl,rfl,rfl⟩ | ⟨x,rfl,hl,hm,hz,hc,hw⟩
 ·exact⟨[],rfl,Bs.nil w⟩
 ·have hb:∀n∈zs,0<=n/\n < 256:=by
   intro n hn
   have:=hw n hn
   simp[Lit.wf,IntKind.min,IntKind.max,IntKind.signed,IntKind.bits]at this
   omega
  refine⟨(zs.take len).map Int.toNat,by rw[List.length_map,List.length_take];omega,?_⟩
  have hlen:((zs.take len).map Int.toNat).length=len:=by rw[List.length_map,List.length_take];omega
  refine⟨by omega,hm,?_,fun h0 => ?_⟩
  ·intro n hn
   obtain⟨y,hy,rfl⟩:=List.mem_map.1 hn
   have:=hb y (List.mem_of_mem_take hy)
   omega
  ·obtain⟨b,o,s⟩:=x
   have h1:=hc 0 (by omega)
   have hs:s=none:=by simpa [Addr.add]using World.cell?_spot h1
   subst hs
   refine⟨b,o,rfl,fun j hj => ?_⟩
   have h2:=hc j (by omega)
   rw[Addr.add_lit]at h2
   rw[h2]
   have hj':j < zs.length:=by omega
   have hn:=hb zs[j] (List.getElem_mem hj')
   have e1:zs.getD j 0=zs[j]:=by simp[List.getD,hj']
   have e2:((zs.take len).map Int.toNat).getD j 0=zs[j].toNat:=by
    simp only[List.getD,List.getElem?_map,List.getElem?_take,show j < len from by omega,if_true,List.getElem?_eq_getElem hj',Option.map_some,Option.getD_some]
   rw[e1,e2]
   congr 2
   omega
def z9H(l:List Nat)(er:Nat)(e:Ending)(w':World):Prop:=∃a c,e = .returned (.tuple #[.slice a l.length c,.int .i64 er])/\Bs w' a c l
def zmo(l:List Nat)(e:Ending)(w':World):Prop:=∃a c,e = .returned (.slice a l.length c)/\Bs w' a c l
def zcT(w:World)(l:List Nat)(er:Nat)(e:Ending)(w':World):Prop:=∃a c,e = .returned (.tuple #[.slice a l.length c,.int .i64 er])/\zf w w' (.slice a l.length c) l
theorem zf.nil(w w':World):zf w w' (.slice none 0 0) []:=⟨z04.nil _,by simp[Value.ownBlock]⟩
theorem zf.app{w0:World}{v':Value}{o:Obj}(h:zf w0 w v l)(hnb:Nb w0 w)(ho:z04 w' v' l')(hk:Kp (fun k=>v.ownBlock=some k) (w.alloc o) w')(hf:∀g,v'.ownBlock=some g->v.ownBlock=some g\/w.heap.size+1<=g):zf w0 w' v' l'/\Nb w0 w':=by
 have hs:=hnb.size
 refine⟨⟨ho,fun g hg => ?_⟩,(hnb.al o).trans (hk.toBelow (Nat.le_trans hs (by simp)) h.2)⟩
 rcases hf g hg with h1 | h1
 ·exact h.2 g h1
 ·omega
theorem z7d (w:World) (ts:Array TypeId) (t:TypeId) (k k':IntKind) (x y:Int) :
    (Builtin.min_ ts t #[.int k x,.int k' y]).run Tryz.prog w = .ok (.int k (min x y)) w:=by
 have e:(if y < x then y else x)=min x y:=by
  rw[Int.min_def]
  split<;>split<;>omega
 simp[Builtin.min_,Builtin.min2,e]
open Go.RowKit Go.ChangeShapes Go.WideShapes
theorem z15 {H:Type} {enc:TypeId × Value->H} {P:Program} {base:Nat} {spare:Nat->Bool} {held:Bool} {cs:List Value} {x:DataW H × List MemPlace} {fs:Array Field}
    (hs:P.underlying t=some (.struct fs)) (h:DataW.trod enc P w base spare held fuel t cs=some x) (i:Nat) (f:Field) (hi:fs[i]? = some f) :
    ∃m y,DataW.trod enc P w base spare held m f.type ((cs.drop f.offset).take (P.cellsOf f.type))=some y:=by
 obtain⟨xs,n,_,_,_,hlen,hf⟩:=DataW.trod_struct hs h
 have hb:i < xs.length:=by rw[hlen];exact(Array.getElem?_eq_some_iff.1 hi).1
 exact⟨n,xs[i],by rw[hf i f hi,List.getElem?_eq_getElem hb]⟩
theorem zbO {H:Type} {enc:TypeId × Value->H} {y:DataW H × List MemPlace}
    (h:DataW.trod enc Tryz.prog w 0 (fun _=>true) true fuel 35 [v]=some y) :
    ∃a cap l,v = .slice a (List.length l) cap/\Bs w a cap l/\(a=none->cap=0):=by
 rcases Go.ChangeShapes.open_ints Tryz.underlying35 Tryz.underlying5 (by kernel_rfl) h with ⟨hcs,_⟩ | ⟨x,l,c,zs,hcs,_,hl,hm,hz,hy,hcell,hwz⟩
 ·simp at hcs
  exact⟨none,0,[],by simpa using hcs,Bs.nil w,fun _=>rfl⟩
 ·simp at hcs
  obtain⟨l',hl',hb⟩:=Bs.ofRow (w:=w) (a:=some x) (len:=l) (cap:=c) (zs:=zs) (.inr ⟨x,rfl,hl,hm,by simpa using hz,hcell,hwz⟩)
  subst hl'
  exact⟨some x,c,l',hcs,hb,by simp⟩
def z7K(a:Option Addr)(cap k:Nat):Option Addr:=if cap=k then a else a.map (·.add k)
theorem zi3:Tryz.prog.elem 35=5:=by kernel_rfl
theorem zi9(w:World):(sizeOf 5).run Tryz.prog w = .ok 1 w:=by kernel_rfl
theorem zbc (a:Option Addr) (len cap k:Nat) (hk:k<=cap) (w:World) :
    (Instr.sliceAt 35 (.slice a len cap) none (some (.int .i64 (k:Int))) none).run Tryz.prog w = .ok (.slice a k cap) w:=by
 have ht:Tryz.prog.underlying 35=some (.slice (Tryz.prog.elem 35)):=by kernel_rfl
 rw[run_sliceAt_slice _ _ _ _ _ _ ht,run_slice_h w _ a len cap ht .i64 (k:Int) (by omega) (by omega),zi3,zi9]
 simp only[Result.andThen,sliced,Nat.zero_mul,Nat.sub_zero,Int.toNat_natCast]
 cases a with
 | none=>simp
 | some a=>simp[Addr.add]
theorem z38 (a:Option Addr) (len cap k:Nat) (hk:k<=len) (w:World) :
    (Instr.sliceAt 35 (.slice a len cap) (some (.int .i64 (k:Int))) none none).run Tryz.prog w = .ok (.slice (z7K a cap k) (len - k) (cap - k)) w:=by
 have ht:Tryz.prog.underlying 35=some (.slice (Tryz.prog.elem 35)):=by kernel_rfl
 rw[run_sliceAt_slice _ _ _ _ _ _ ht,run_slice_l w _ a len cap ht .i64 (k:Int) (by omega) (by omega),zi3,zi9]
 simp only[Result.andThen,sliced,Nat.mul_one,Int.toNat_natCast,z7K]
theorem Bs.cutL(h:Bs w a cap l)(k:Nat)(hk:k<=l.length):Bs w (z7K a cap k) (cap - k) (l.drop k):=by
 have hc:=h.hcap
 have hm:=h.hmax
 unfold z7K
 by_cases hz:l.drop k=[]
 ·rw[hz]
  exact⟨Nat.zero_le _,by omega,by simp,by simp⟩
 ·have h1:0 < (l.drop k).length:=List.length_pos_iff.2 hz
  rw[List.length_drop]at h1
  obtain⟨b,o,rfl,_⟩:=h.hcells (by omega)
  rw[if_neg (by omega)]
  have:=h.tail k hk
  by_cases h0:k=0
  ·subst h0;simpa [Addr.add]using this
  ·simpa [Addr.add,h0]using this
def z4F(l:List Nat):ByteArray:=⟨(l.map UInt8.ofNat).toArray⟩
theorem zeI(hl:∀x∈l,x < 256)(hl':∀x∈l',x < 256)(h:(z4F l).toList=(z4F l').toList):l=l':=by
 have e:∀l:List Nat,(z4F l).toList=l.map UInt8.ofNat:=fun l=>by simp[z4F]
 rw[e,e]at h
 have h2:=congrArg (List.map UInt8.toNat) h
 rw[List.map_map,List.map_map]at h2
 have e2:∀l:List Nat,(∀x∈l,x < 256)->l.map (UInt8.toNat∘UInt8.ofNat)=l:=by
  intro l hl
  refine(List.map_congr_left fun x hx => ?_).trans (List.map_id l)
  have:=hl x hx
  simp
  omega
 rwa[e2 l hl,e2 l' hl']at h2
theorem ze5(l l':List Nat)(hl:∀x∈l,x < 256)(hl':∀x∈l',x < 256):((z4F l).toList==(z4F l').toList)=decide (l=l'):=by
 by_cases h:l=l'
 ·subst h;simp
 ·have:¬(z4F l).toList=(z4F l').toList:=fun e=>h (zeI hl hl' e)
  simp[h,this]
theorem zcE(l:List Nat):∀s:ByteArray,(l.map Int.ofNat).foldl (fun r n=>r.push (UInt8.ofNat n.toNat)) s=s++z4F l:=by
 induction l with
 | nil=>intro s;apply ByteArray.ext;simp[z4F]
 | cons x l ih =>
   intro s
   rw[List.map_cons,List.foldl_cons,ih]
   apply ByteArray.ext
   simp[z4F]
theorem z8T (w:World) (a:Option Addr) (cap:Nat) (l:List Nat) (h:Bs w a cap l) :
    (convert 35 9 (.slice a l.length cap)).run Tryz.prog w = .ok (.string (z4F l)) w:=by
 rw[run_convert_bytes_string w _ _ 5 a l.length cap Tryz.underlying35 Tryz.underlying5 Tryz.underlying9]
 cases a with
 | none =>
   have:l=[]:=by
    cases l with
    | nil=>rfl
    | cons x l=>obtain⟨_,_,h,_⟩:=h.hcells (by simp);cases h
   subst this
   rfl
 | some ad =>
   have hload:(loadCells ad l.length).run Tryz.prog w = .ok ((l.map Int.ofNat).map (Value.int .u8)).toArray w:=by
    have:=run_loadCells_list (P:=Tryz.prog) w ad ((l.map Int.ofNat).map (Value.int .u8)) ?_
    ·simpa using this
    ·intro j v hv
     have hj:j < l.length:=by
      have:=(List.getElem?_eq_some_iff.1 hv).1
      simpa using this
     obtain⟨b,o,hb,hc⟩:=h.hcells (by omega)
     obtain rfl:=Option.some.inj hb
     rw[Addr.add_lit,hc j hj,<- hv]
     simp[List.getD,hj]
   rw[run_bytesToString w ad l.length cap (l.map Int.ofNat) hload,zcE]
   simp
theorem zbE (a a':Option Addr) (cap cap':Nat) (l l':List Nat) (w:World) (h:Bs w a cap l) (h':Bs w a' cap' l') :
    Calls Tryz.prog 21 #[.slice a l.length cap,.slice a' l'.length cap'] w fun e w'=>e = .returned (.bool (decide (l=l')))/\w=w':=by
 have c1:=z8T w a cap l h
 have c2:=z8T w a' cap' l' h'
 have e:=ze5 l l' h.hbyte h'.hbyte
 have E:=zH e
 clear e h h'
 go_enter Tryz.func21,Tryz.ntmps21
 go_wp2
 go_ret
 exact⟨by rw[<- E.out];rfl,rfl⟩
end Go.Proofs.YtplbmlpdefpplaaGreatDoor
