/- Words for byte rows and for memory, shared by the contracts: Bs says that a slice of bytes reads as a list of numbers, Nb that nothing that was there has turned. No conditions. What an append onto a slice of bytes of the own call answers, and which block the answer lies in. Conditions: sizes below 2 to the 47. The step that appends one bit to a row of bits, by itself and embedded. Condition: a row below 2 to the 46. Contracts of newRow, number, octet, each over bytes, and Put. Conditions: sizes below 2 to the 46. Contracts of Check, of the document's Check, Same and Num, and of a number's step. No conditions but those of bits. Rows of bytes that are new since a world, parts of rows, and a bit turned. No conditions. What an argument that is a slice of bytes reads as. No conditions. What an argument's cells are: a struct's fields, a slice of bytes, without a bound by the reach. No conditions. What a list of bytes is as a string, and bytes made a string. No conditions. -/
import Derived.Test.YtlmbggmamemmjaaDoorProg
import Derived.WalkKit
import Derived.ProofKit
import Derived.OpenShut
import Derived.Below
import Derived.WalkSmall
import Derived.BigQuiet
import Derived.Deep.QuietTactic
import Derived.Lib.Hide
import Derived.Lib.SmallJoins
set_option maxHeartbeats 800000
set_option maxRecDepth 100000
namespace Go.Proofs.YtlmbggmamemmjaaDoor
set_option linter.unusedVariables false
set_option linter.unusedSimpArgs false
open Go.RowKit
theorem zH {p:Prop} (h:p):Hid p:=h
abbrev Nb (w w':World):Prop:=Below w.heap.size w w'
theorem Nb.rfl {w:World}:Nb w w:=Below.refl _ _
theorem Nb.drewN (w:World) (n:Nat):Nb w (w.drewN n):=below_drewN (Below.refl _ _) n
theorem Nb.al {w w1:World} (h:Nb w w1) (o:Obj):Nb w (w1.alloc o):=h.alloc h.size o
theorem Nb.st {w w1:World} (h:Nb w w1) {p:Addr} (hp:w.heap.size<=p.block) (u:Value):Nb w (w1.setCell p u):=h.setCell hp u
theorem Nb.tr {a b c:World} (h:Nb a b) (k:Nb b c):Nb a c:=h.trans (k.mono h.size)
theorem Nb.tr' {B:Nat} {a b c:World} (h:Below B a b) (k:Nb b c) (hB:B<=b.heap.size):Below B a c:=h.trans (k.mono hB)
structure Bs (w:World) (a:Option Addr) (cap:Nat) (l:List Nat):Prop where
 hcap:l.length<=cap
 hmax:cap<=maxLen
 hbyte:∀ x∈l,x < 256
 hcells:0 < l.length->∃ b o,a=some ⟨b,o,none⟩/\∀ j,j < l.length->w.cell? ⟨b,o+j,none⟩=some (.int .u8 ((l.getD j 0:Nat):Int))
theorem Bs.len {w:World} {a:Option Addr} {cap:Nat} {l:List Nat} (h:Bs w a cap l):l.length<=9223372036854775807:=by
 have h1:=h.hcap
 have h2:=h.hmax
 unfold maxLen at h2
 omega
theorem Bs.getD_lt {w:World} {a:Option Addr} {cap:Nat} {l:List Nat} (h:Bs w a cap l) (j:Nat):l.getD j 0 < 256:=by
 by_cases hj:j < l.length
 ·have e:l.getD j 0=l[j]:=by simp[List.getD,hj]
  rw[e]
  exact h.hbyte _ (List.getElem_mem hj)
 ·simp[List.getD,List.getElem?_eq_none (by omega:l.length<=j)]
theorem Bs.below {w w':World} {a:Option Addr} {cap:Nat} {l:List Nat} (h:Bs w a cap l) (hb:Nb w w'):Bs w' a cap l:=by
 refine⟨h.hcap,h.hmax,h.hbyte,fun hl => ?_⟩
 obtain⟨b,o,ha,hc⟩:=h.hcells hl
 exact⟨b,o,ha,fun j hj=>by
  have:=hc j hj
  rw[hb.cell (p:=⟨b,o+j,none⟩) (World.block_lt_of_cell? _ _ this)]
  exact this⟩
theorem Bs.nil (w:World):Bs w none 0 []:=⟨Nat.le_refl _,by simp[maxLen],by simp,by simp⟩
theorem Bs.drewN {w:World} {a:Option Addr} {cap:Nat} {l:List Nat} (h:Bs w a cap l) (n:Nat):Bs (w.drewN n) a cap l:=h.below (Nb.drewN _ _)
structure Kp (F:Nat->Prop) (w w':World):Prop where
 os:w'.os=w.os
 tape:w'.tape=w.tape
 output:w'.output=w.output
 size:w.heap.size<=w'.heap.size
 block:∀ k,k < w.heap.size->¬F k->w'.heap[k]? = w.heap[k]?
theorem Kp.rfl {F:Nat->Prop} {w:World}:Kp F w w:=⟨Eq.refl _,Eq.refl _,Eq.refl _,Nat.le_refl _,fun _ _ _=>Eq.refl _⟩
theorem Kp.tr {F F':Nat->Prop} {a b c:World} (h:Kp F a b) (k:Kp F' b c) (hF:∀ k,F' k->F k\/a.heap.size<=k):Kp F a c :=
 ⟨k.os.trans h.os,k.tape.trans h.tape,k.output.trans h.output,Nat.le_trans h.size k.size,fun i hi hn=>(k.block i (Nat.lt_of_lt_of_le hi h.size) (fun hf=>by rcases hF i hf with h1 | h1;exact hn h1;omega)).trans (h.block i hi hn)⟩
theorem Kp.mono {F F':Nat->Prop} {a b:World} (h:Kp F a b) (hF:∀ k,k < a.heap.size->F k->F' k):Kp F' a b:=⟨h.os,h.tape,h.output,h.size,fun i hi hn=>h.block i hi (fun hf=>hn (hF i hi hf))⟩
theorem Kp.ofNb {F:Nat->Prop} {w w':World} (h:Nb w w'):Kp F w w':=⟨h.os,h.tape,h.output,h.size,fun k hk _=>h.block k hk⟩
theorem Kp.toBelow {F:Nat->Prop} {B:Nat} {w w':World} (h:Kp F w w') (hB:B<=w.heap.size) (hF:∀ k,F k->B<=k):Below B w w' :=
 ⟨h.os,h.tape,h.output,h.size,fun k hk=>h.block k (by omega) (fun hf=>by have:=hF k hf;omega)⟩
theorem Kp.grown {F:Nat->Prop} {w w':World} {row:Option Nat} (hg:w.grownBy w' row) (hF:∀ k,row=some k->F k):Kp F w w' :=
 ⟨hg.os,hg.tape,hg.output,hg.size,fun k hk hn=>hg.block k hk (fun e=>hn (hF k e.symm))⟩
theorem Kp.set {F:Nat->Prop} {w:World} {p:Addr} {u:Value} (hF:F p.block):Kp F w (w.setCell p u) :=
 ⟨Eq.refl _,Eq.refl _,Eq.refl _,by simp[World.setCell],fun k _ hn=>Below.heap_setCell _ _ _ _ (fun e=>hn (e ▸ hF))⟩
theorem Kp.alloc {F:Nat->Prop} {w:World} {o:Obj}:Kp F w (w.alloc o):=Kp.ofNb ((Below.refl _ _).alloc (Nat.le_refl _) o)
def Blk (w:World) (R:Nat) (cs:Array Value) (t:TypeId):Prop:=w.heap[R]? = some (.cells cs t (0,0))
theorem Blk.lt {w:World} {R:Nat} {cs:Array Value} {t:TypeId} (h:Blk w R cs t):R < w.heap.size:=(Array.getElem?_eq_some_iff.1 h).1
theorem Blk.cell {w:World} {R:Nat} {cs:Array Value} {t:TypeId} (h:Blk w R cs t) (j:Nat):w.cell? ⟨R,j,none⟩=cs[j]? := by
 unfold Blk at h
 simp[World.cell?,h]
theorem Blk.frozen {w:World} {R:Nat} {cs:Array Value} {t:TypeId} (h:Blk w R cs t) (j:Nat):w.frozen? ⟨R,j,none⟩=false:=by
 unfold Blk at h
 simp[World.frozen?,h]
theorem Blk.set {w:World} {R:Nat} {cs:Array Value} {t:TypeId} (h:Blk w R cs t) (j:Nat) (u:Value):Blk (w.setCell ⟨R,j,none⟩ u) R (cs.setIfInBounds j u) t:=by
 unfold Blk at *
 simp[World.setCell,Array.getElem?_modify,h]
theorem Blk.keep {F:Nat->Prop} {w w':World} {R:Nat} {cs:Array Value} {t:TypeId} (h:Blk w R cs t) (hk:Kp F w w') (hn:¬F R):Blk w' R cs t:=(hk.block R h.lt hn).trans h
theorem Blk.nb {w w':World} {R:Nat} {cs:Array Value} {t:TypeId} (h:Blk w R cs t) (hk:Nb w w'):Blk w' R cs t:=(hk.block R h.lt).trans h
theorem Blk.new (w:World) (cs:Array Value) (t:TypeId):Blk (w.alloc (.cells cs t)) w.heap.size cs t:=heap_alloc_new w _
theorem Blk.other {w:World} {R:Nat} {cs:Array Value} {t:TypeId} (h:Blk w R cs t) {p:Addr} (hp:R≠p.block) (u:Value):Blk (w.setCell p u) R cs t:=(Below.heap_setCell _ _ _ _ hp).trans h
theorem infoU8:(Tryd.prog.info? 5).map (fun i=>(i.zero,i.size,i.bytes))=some (some (.int .u8 0),1,1):=by kernel_rfl
def OwnB (w:World) (v:Value) (l:List Nat):Prop:=w.ownsRow 0 5 1 v l.length (l.map fun x:Nat=>Value.int .u8 (x:Int))/\∀ x∈l,x < 256
theorem OwnB.keep {F:Nat->Prop} {w w':World} {v:Value} {l:List Nat} (h:OwnB w v l) (hk:Kp F w w') (hn:∀ g,v.ownBlock=some g->¬F g):OwnB w' v l:=by
 obtain⟨⟨h1,h2⟩,h3⟩:=h
 refine⟨⟨h1,?_⟩,h3⟩
 rcases h2 with h2 | ⟨g,cap,cur,rfl,hb,hg,r⟩
 ·exact .inl h2
 ·exact .inr ⟨g,cap,cur,rfl,hb,(hk.block g (Array.getElem?_eq_some_iff.1 hg).1 (hn g rfl)).trans hg,r⟩
theorem OwnB.lt {w:World} {v:Value} {l:List Nat} (h:OwnB w v l) {g:Nat} (hg:v.ownBlock=some g):g < w.heap.size:=(h.1.lt g hg).2
theorem OwnB.frozen {w:World} {v:Value} {l:List Nat} (h:OwnB w v l) {g:Nat} (hg:v.ownBlock=some g) (j:Nat):w.frozen? ⟨g,j,none⟩=false:=by
 rcases h.1.2 with ⟨rfl,h2⟩ | ⟨g',cap,cur,rfl,hb,hh,r⟩
 ·simp[Value.ownBlock] at hg
 ·simp[Value.ownBlock] at hg
  subst hg
  simp[World.frozen?,hh]
theorem OwnB.setByte {w:World} {v:Value} {l:List Nat} (h:OwnB w v l) {g:Nat} (hg:v.ownBlock=some g) (j:Nat) (hj:j < l.length) (y:Nat) (hy:y < 256):OwnB (w.setCell ⟨g,j,none⟩ (.int .u8 y)) v (l.set j y):=by
 obtain⟨⟨h1,h2⟩,h3⟩:=h
 refine⟨⟨by simp,?_⟩,fun x hx=>by rcases List.mem_or_eq_of_mem_set hx with h | rfl;exact h3 x h;exact hy⟩
 rcases h2 with ⟨rfl,h2⟩ | ⟨g',cap,cur,rfl,hb,hh,hn,hm,hs,ht⟩
 ·simp[Value.ownBlock] at hg
 ·simp[Value.ownBlock] at hg
  subst hg
  refine .inr ⟨g',cap,cur.setIfInBounds j (.int .u8 y),by simp,hb,by simp[World.setCell,Array.getElem?_modify,hh],by simpa using hn,hm,by simpa using hs,?_⟩
  rw[Nat.mul_one] at ht
  rw[List.length_set,Nat.mul_one,Array.toList_setIfInBounds,List.take_set,ht,List.map_set]
theorem OwnB.bs {w:World} {v:Value} {l:List Nat} (h:OwnB w v l):∃ a cap,v = .slice a l.length cap/\Bs w a cap l/\(∀ b o s,a=some ⟨b,o,s⟩->v.ownBlock=some b):=by
 rcases h.1.2 with ⟨rfl,h2⟩ | ⟨g,cap,cur,rfl,hb,hg,hn,hcap,hs,ht⟩
 ·have hl:l=[]:=List.length_eq_zero_iff.1 h2
  subst hl
  exact⟨none,0,rfl,Bs.nil w,by simp⟩
 ·refine⟨some ⟨g,0,none⟩,cap,rfl,⟨hn,hcap,h.2,fun _=>⟨g,0,rfl,fun j hj => ?_⟩⟩,by rintro b o s e;cases e;rfl⟩
  have hc:=h.1.cells (g:=g) rfl j (.int .u8 ((l.getD j 0:Nat):Int)) (by simp[List.getD,hj])
  rw[Addr.add_lit] at hc
  exact hc
theorem ret_int' {k:IntKind} {a b:Int} (h:a=b):Ending.returned (.int k a) = .returned (.int k b):=by rw[h]
theorem nat_of_beq {a b:Nat} (h:(((a:Nat):Int)==((b:Nat):Int))=true):a=b:=by have:=beq_iff_eq.1 h;omega
theorem nat_of_bne {a b:Nat} (h:(((a:Nat):Int)==((b:Nat):Int))=false):¬a=b:=by have:=beq_eq_false_iff_ne.1 h;omega
end Go.Proofs.YtlmbggmamemmjaaDoor
/-
 'append' onto a slice that the call itself made,with the word on which block the answer lies in: the old one,or a new one.
-/
namespace Go.Proofs.YtlmbggmamemmjaaDoor
set_option linter.unusedVariables false
set_option linter.unusedSimpArgs false
open Go.RowKit
theorem ownsRow_weak {w:World} {B:Nat} {e:TypeId} {size:Nat} {v:Value} {n:Nat} {xs:List Value} (h:w.ownsRow B e size v n xs):w.ownsRow 0 e size v n xs:=by
 obtain⟨h1,h2⟩:=h
 refine⟨h1,?_⟩
 rcases h2 with h2 | ⟨g,cap,cur,hv,_,r⟩
 ·exact .inl h2
 ·exact .inr ⟨g,cap,cur,hv,Nat.zero_le _,r⟩
theorem wpList_app {P:Program} (w:World) {ops:Array Oper} {rest:List Oper} {o:Oper} {a:Act} {Q:Exit->Act->World->Prop}
    (hg:o.guard=none) (s x:Operand) (t:TypeId) (hop:o.op=Op.call { callee:=Callee.builtin Builtin.append,args:=#[s,x],argTypes:=#[t,t] })
    (e:TypeId) (i:TypeInfo) (z:Value) (size bytes:Nat) (h1:P.underlying t=some (.slice e)) (h2:P.info? e=some i) (h3:i.zero=some z) (h4:i.size=size) (h5:i.bytes=bytes) (h6:z.cells.size=size) (h7:0 < size)
    (v:Value) (n:Nat) (xs:List Value) (hs:a.eval s=v) (hown:w.ownsRow 0 e size v n xs)
    (ao:Option Addr) (m c:Nat) (news:List Value) (hx:a.eval x = .slice ao m c) (hn:news.length=m*size) (hnone:ao=none->m=0/\c=0)
    (hc:∀ ad,ao=some ad->∀ j u,news[j]? = some u->w.cell? (ad.add j)=some u) (h1c:∀ u∈news,u.oneCell'=true)
    (b1:n+m<=maxLen) (b2:(n+m)*bytes<=140737488355328)
    (hK:∀ v' w',w'.ownsRow 0 e size v' (n+m) (xs++news)->w.grownBy w' v.ownBlock->(∀ g,v'.ownBlock=some g->v.ownBlock=some g\/w.heap.size<=g)->wpList P ops Q rest (a.put o.dst v') w') :
    wpList P ops Q (o::rest) a w:=by
 have hnew:∀ v' w',w'.ownsRow w.heap.size e size v' (n+m) (xs++news)->w.grownBy w' none->wpList P ops Q rest (a.put o.dst v') w':=fun v' w' ho hgr =>
  hK v' w' (ownsRow_weak ho) ⟨hgr.os,hgr.tape,hgr.output,hgr.size,fun k hk _=>hgr.block k hk (by simp)⟩ (fun g hg => .inr (ho.lt g hg).1)
 rcases hown.2 with ⟨rfl,rfl⟩ | ⟨g,cap,cur,rfl,hbg,hgg,hnc,hcm,hcs,htake⟩
 ·by_cases hm:m=0
  ·subst hm
   have hnews:news=[]:=List.eq_nil_of_length_eq_zero (by simpa using hn)
   subst hnews
   cases ao with
   | none =>
     obtain⟨_,rfl⟩:=hnone rfl
     refine wpList_plain hg fun K hK' => ?_
     have hrun:=run_append_owned_none (P:=P) w 0 t o.type e i size h1 h2 _ 0 xs hown
     unfold Oper.wp
     simp[execOp,hop,resolve,invoke,builtin,hs,hx,hrun,Result.andThen]
     exact hK' _ _ (by simpa using hK (.slice none 0 0) w (by simpa using hown) (World.grownBy.refl _ _) (by simp[Value.ownBlock]))
   | some ad =>
     refine wpList_append_own w hg s x t hop 0 e i z size bytes h1 h2 h3 h4 h5 h6 h7 _ 0 xs hs hown ad 0 c [] hx (by simp) (by simp) (by simp) b1 b2 (Nat.zero_le _) fun v' w' ho hgr hv => ?_
     refine hK v' w' ho hgr ?_
     obtain rfl:=hv.2 ⟨rfl,rfl⟩
     simp[Value.ownBlock]
  ·cases ao with
   | none=>exact absurd (hnone rfl).1 hm
   | some ad =>
     have hxs:xs=[]:=List.eq_nil_of_length_eq_zero (by simpa using hown.1)
     subst hxs
     exact wpList_append_grows w hg s x t hop e i z size bytes h1 h2 h3 h4 h5 h6 h7 none 0 0 [] hs (fun _=>⟨rfl,rfl⟩) (by simp) (by simp) ad m c news hx hn (hc ad rfl) h1c (by omega) b1 b2 hnew
 ·by_cases hroom:n+m<=cap
  ·exact wpList_append_fits_any w hg s x t hop 0 e i size h1 h2 h4 g n cap xs hs hown ao m c news hx hn hnone hc h1c hroom fun w' ho hgr=>hK _ w' ho hgr (fun k hk => .inl (by simpa [Value.ownBlock] using hk))
  ·cases ao with
   | none =>
     have:=(hnone rfl).1
     omega
   | some ad =>
     exact wpList_append_grows w hg s x t hop e i z size bytes h1 h2 h3 h4 h5 h6 h7 (some ⟨g,0,none⟩) n cap xs hs (by simp) hown.1 (fun b hb=>by cases hb;exact hown.cells (g:=g) rfl) ad m c news hx hn (hc ad rfl) h1c (by omega) b1 b2 hnew
theorem wpList_appB (w:World) {ops:Array Oper} {rest:List Oper} {o:Oper} {a:Act} {Q:Exit->Act->World->Prop}
    (hg:o.guard=none) (s x:Operand) (hop:o.op=Op.call { callee:=Callee.builtin Builtin.append,args:=#[s,x],argTypes:=#[34,34] })
    (v:Value) (l:List Nat) (hs:a.eval s=v) (hown:OwnB w v l)
    (ao:Option Addr) (c:Nat) (ns:List Nat) (m:Nat) (hm:m=ns.length) (hx:a.eval x = .slice ao m c) (hb:Bs w ao c ns) (hnone:ao=none->m=0/\c=0)
    (b1:l.length+ns.length<=140737488355328)
    (hK:∀ v' w',OwnB w' v' (l++ns)->Kp (fun k=>v.ownBlock=some k) w w'->(∀ g,v'.ownBlock=some g->v.ownBlock=some g\/w.heap.size<=g)->wpList Tryd.prog ops Q rest (a.put o.dst v') w') :
    wpList Tryd.prog ops Q (o::rest) a w:=by
 obtain⟨i0,hi,hz0,hz1,hz2⟩:=info_parts infoU8
 subst hm
 refine wpList_app w hg s x 34 hop 5 i0 (.int .u8 0) 1 1 Tryd.underlying34 hi hz0 hz1 hz2 rfl (by decide) v l.length _ hs hown.1 ao ns.length c (ns.map fun x:Nat=>Value.int .u8 (x:Int)) hx (by simp) hnone ?_ ?_ (by unfold maxLen;omega) (by omega) ?_
 ·intro ad had j u hu
  have hj:j < ns.length:=by
   have:=(List.getElem?_eq_some_iff.1 hu).1
   simpa using this
  obtain⟨b,o,rfl,hcell⟩:=hb.hcells (by omega)
  obtain rfl:=Option.some.inj had
  rw[Addr.add_lit,hcell j hj]
  rw[<- hu]
  simp[List.getD,hj]
 ·intro u hu
  obtain⟨y,_,rfl⟩:=List.mem_map.1 hu
  rfl
 ·intro v' w' ho hgr hbl
  refine hK v' w' ⟨by simpa using ho,?_⟩ (Kp.grown hgr (fun k hk=>hk)) hbl
  intro y hy
  rcases List.mem_append.1 hy with h | h
  ·exact hown.2 y h
  ·exact hb.hbyte y h
theorem OwnB.shape {w:World} {v:Value} {l:List Nat} (h:OwnB w v l) (hl:0 < l.length):∃ g cap,v = .slice (some ⟨g,0,none⟩) l.length cap:=by
 rcases h.1.2 with ⟨_,h2⟩ | ⟨g,cap,cur,hv,_⟩
 ·omega
 ·exact⟨g,cap,hv⟩
theorem Bs.one (w:World) (x:Nat) (hx:x < 256) (t:TypeId):Bs (w.alloc (.cells #[.int .u8 (x:Int)] t)) (some ⟨w.heap.size,0,none⟩) 1 [x] :=
 ⟨Nat.le_refl _,by simp[maxLen],by simpa using hx,fun _=>⟨_,_,rfl,fun j hj=>by
  have:j=0:=by simpa using hj
  subst this
  simp⟩⟩
end Go.Proofs.YtlmbggmamemmjaaDoor
namespace Go.Proofs.YtlmbggmamemmjaaDoor
set_option linter.unusedVariables false
set_option linter.unusedSimpArgs false
open Go.RowKit
def Foot (R:Nat) (v:Value) (k:Nat):Prop:=k=R\/v.ownBlock=some k
structure RowAt (w:World) (t:TypeId) (R:Nat) (v:Value) (l:List Nat):Prop where
 blk:Blk w R #[v] t
 own:OwnB w v l
 ne:v.ownBlock≠some R
theorem RowAt.keep {F:Nat->Prop} {w w':World} {t:TypeId} {R:Nat} {v:Value} {l:List Nat} (h:RowAt w t R v l) (hk:Kp F w w') (hn:∀ k,Foot R v k->¬F k):RowAt w' t R v l :=
 ⟨h.blk.keep hk (hn R (.inl rfl)),h.own.keep hk (fun g hg=>hn g (.inr hg)),h.ne⟩
theorem RowAt.lt {w:World} {t:TypeId} {R:Nat} {v:Value} {l:List Nat} (h:RowAt w t R v l):∀ k,Foot R v k->k < w.heap.size:=by
 rintro k (rfl | hk)
 ·exact h.blk.lt
 ·exact h.own.lt hk
def RowStep (w:World) (t:TypeId) (R:Nat) (v:Value) (l:List Nat) (w':World):Prop :=
 ∃ v',RowAt w' t R v' l/\Kp (Foot R v) w w'/\∀ k,Foot R v' k->Foot R v k\/w.heap.size<=k
structure RowIn (w:World) (t:TypeId) (R o:Nat) (cs:Array Value) (v:Value) (l:List Nat):Prop where
 blk:Blk w R cs t
 here:cs[o]? = some v
 own:OwnB w v l
 ne:v.ownBlock≠some R
def RowInStep (w:World) (t:TypeId) (R o:Nat) (cs:Array Value) (v:Value) (l:List Nat) (w':World):Prop :=
 ∃ v',RowIn w' t R o (cs.setIfInBounds o v') v' l/\Kp (Foot R v) w w'/\∀ k,Foot R v' k->Foot R v k\/w.heap.size<=k
end Go.Proofs.YtlmbggmamemmjaaDoor
/-
 A number's bits appended to a row;a byte's;all bytes handed on ('each').
-/
namespace Go.Proofs.YtlmbggmamemmjaaDoor
set_option linter.unusedVariables false
set_option linter.unusedSimpArgs false
open Go.RowKit
def bitsN (n size:Nat):List Nat:=(List.range size).map fun i=>n / 2^(size - 1 - i)%2
theorem bitsN_length (n size:Nat):(bitsN n size).length=size:=by simp[bitsN]
theorem bitsN_take_succ (n size k:Nat) (h:k < size):(bitsN n size).take (k+1)=(bitsN n size).take k++[n / 2^(size - 1 - k)%2]:=by
 rw[List.take_add_one,List.getElem?_eq_getElem (by rw[bitsN_length];exact h)]
 simp[bitsN]
theorem bitsN_lt (n size:Nat):∀ x∈bitsN n size,x < 2:=by
 intro x hx
 obtain⟨i,_,rfl⟩:=List.mem_map.1 hx
 omega
theorem RowStep.size {w:World} {t:TypeId} {R:Nat} {v:Value} {l:List Nat} {w':World} (h:RowStep w t R v l w'):w.heap.size<=w'.heap.size:=by
 obtain⟨_,_,h,_⟩:=h
 exact h.size
theorem run_makeB (w:World) (n:Nat) (hn:n<=140737488355328):(Instr.makeSlice 34 (.int .i64 0) (.int .i64 (n:Int))).run Tryd.prog w = .ok (.slice (some ⟨w.heap.size,0,none⟩) 0 n) (w.alloc (.cells (madeCells #[.int .u8 0] n) 5)):=by
 obtain⟨i0,hi,hz0,hz1,hz2⟩:=info_parts infoU8
 have h:=run_make w 34 5 i0 (.int .u8 0) Tryd.underlying34 hi hz0 .i64 .i64 0 n (by omega) (by omega) (by rw[hz2];omega) (by omega)
 rw[hz1] at h
 simpa [Value.cells] using h
theorem OwnB.made (w:World) (n:Nat) (hn:n<=140737488355328):OwnB (w.alloc (.cells (madeCells #[.int .u8 0] n) 5)) (.slice (some ⟨w.heap.size,0,none⟩) 0 n) [] :=
 ⟨World.ownsRow_made w _ n (Nat.zero_le _) (by unfold maxLen;omega) (by simp[size_madeCells]),by simp⟩
def PutOk (n:Nat) (size:Int):Prop:=0<=size/\size<=64/\n < 2^size.toNat
end Go.Proofs.YtlmbggmamemmjaaDoor
/-
 Check (the program's and the document's),Same,Num,Get.
-/
namespace Go.Proofs.YtlmbggmamemmjaaDoor
set_option linter.unusedVariables false
set_option linter.unusedSimpArgs false
open Go.RowKit
def chk (l:List Nat):Bool:=decide (l.length<=65536)&&l.all (fun x=>decide (x<=1))
theorem chk_len {l:List Nat} (h:chk l=true):l.length<=65536:=by simp[chk] at h;exact h.1
theorem chk_bit {l:List Nat} (h:chk l=true):∀ x∈l,x<=1:=by simp[chk] at h;exact h.2
theorem same_any (a a':Option Addr) (cap cap':Nat) (l l':List Nat) (w:World) (h:Bs w a cap l) (h':Bs w a' cap' l') :
    Calls Tryd.prog 26 #[.slice a l.length cap,.slice a' l'.length cap'] w fun e w'=>e = .returned (.bool (decide (l=l')))/\Nb w w':=by
 have hL:=h.len
 have hL':=h'.len
 by_cases hne:l.length=l'.length
 ·have hlen:=Lib.hid hne
  have hle:l.length<=l'.length:=by omega
  have hge:l'.length<=l.length:=by omega
  have hd:((l.length:Int) != (l'.length:Int))=false:=by simp[hne]
  clear hne
  go_enter Tryd.func26,Tryd.ntmps26
  go_wp2
  go_loopw [13] (fun i wr=>∃ k:Nat,k<=l.length/\i = .int .i64 k/\(∀ j,j < k->l[j]? = l'[j]?)/\Nb w wr) (fun i _=>l.length - (intOf i).toNat)
  case atStart=>exact⟨0,Nat.zero_le _,rfl,by intro j hj;omega,Nb.rfl⟩
  case round =>
   obtain⟨k,hk,rfl,hall,hnb⟩:=hrel
   have HA:=Lib.hid hall
   by_cases hlt:k < l.length
   ·obtain⟨b,o,rfl,hcl⟩:=(h.below hnb).hcells (by omega)
    obtain⟨b',o',rfl,hcl'⟩:=(h'.below hnb).hcells (by omega)
    obtain⟨x,hx⟩:∃ x,l[k]? = some x:=⟨l[k],by simp[hlt]⟩
    obtain⟨x',hx'⟩:∃ x,l'[k]? = some x:=⟨l'[k]'(by omega),by simp⟩
    have c1:=hcl k hlt
    have c2:=hcl' k (by omega)
    rw[show l.getD k 0=x from by simp[List.getD,hx]] at c1
    rw[show l'.getD k 0=x' from by simp[List.getD,hx']] at c2
    have HX:=Lib.hid hx
    have HX':=Lib.hid hx'
    clear hcl hcl' hx hx' hall h h'
    go_wp2
    go_quiet (fail)
    by_cases hxx:x=x'
    ·have hb:((x:Int) != (x':Int))=false:=by simp[hxx]
     have HH:=Lib.hid hxx
     clear hxx
     go_wp2
     go_roundw
     case rel=>exact⟨k+1,by omega,by go_num,fun j hj=>by
      rcases Nat.lt_succ_iff_lt_or_eq.1 hj with h | rfl
      ·exact HA.out j h
      ·rw[HX.out,HX'.out,HH.out],hnb.tr (Nb.drewN _ _)⟩
     case measure=>simp[intOf];omega
    ·have hb:((x:Int) != (x':Int))=true:=by rw[bne_iff_ne];omega
     have hf:decide (l=l')=false:=by
      simp only[decide_eq_false_iff_not]
      rintro rfl
      have:=HX.out.symm.trans HX'.out
      simp only[Option.some.injEq] at this
      exact hxx this
     have HF:=Lib.hid hf
     clear hf
     go_wp2
     go_ret
     exact⟨by rw[HF.out];rfl,hnb.tr (Nb.drewN _ _)⟩
   ·obtain rfl:k=l.length:=by omega
    have hf:decide (l=l')=true:=by
     simp only[decide_eq_true_eq]
     apply List.ext_getElem?
     intro j
     by_cases hj:j < l.length
     ·exact hall j hj
     ·rw[List.getElem?_eq_none (by omega),List.getElem?_eq_none (by omega)]
    have HF:=Lib.hid hf
    clear hf hall
    go_wp2
    go_ret
    exact⟨by rw[HF.out];rfl,hnb⟩
 ·have hd:((l.length:Int) != (l'.length:Int))=true:=by rw[bne_iff_ne];omega
  have hf:decide (l=l')=false:=by
   simp only[decide_eq_false_iff_not]
   rintro rfl
   exact hne rfl
  have HF:=Lib.hid hf
  clear hf
  go_enter Tryd.func26,Tryd.ntmps26
  go_wp2
  go_ret
  exact⟨by rw[HF.out];rfl,Nb.rfl⟩
def numN (l:List Nat):Nat:=l.foldl (fun n b=>n*2+b) 0
theorem numN_snoc (l:List Nat) (b:Nat):numN (l++[b])=numN l*2+b:=by simp[numN]
theorem numN_lt (l:List Nat) (h:∀ x∈l,x<=1):numN l < 2^l.length:=by
 have key:∀ (l:List Nat) (n:Nat),(∀ x∈l,x<=1)->l.foldl (fun n b=>n*2+b) n < (n+1)*2^l.length:=by
  intro l
  induction l with
  | nil=>intro n _;simp
  | cons b l ih =>
    intro n hl
    have h1:=ih (n*2+b) (fun x hx=>hl x (by simp[hx]))
    have h2:=hl b (by simp)
    rw[List.foldl_cons,List.length_cons,Nat.pow_succ]
    refine Nat.lt_of_lt_of_le h1 ?_
    rw[Nat.mul_comm (2^l.length) 2,<- Nat.mul_assoc]
    exact Nat.mul_le_mul_right _ (by omega)
 have:=key l 0 h
 simpa [numN] using this
theorem take_snoc' {l:List Nat} {k x:Nat} (h:l[k]? = some x):l.take (k+1)=l.take k++[x]:=by rw[List.take_add_one,h];rfl
end Go.Proofs.YtlmbggmamemmjaaDoor
namespace Go.Proofs.YtlmbggmamemmjaaDoor
set_option linter.unusedVariables false
set_option linter.unusedSimpArgs false
open Go.RowKit
theorem run_makeFull (w:World) (n:Nat) (hn:n<=140737488355328):(Instr.makeSlice 34 (.int .i64 (n:Int)) (.int .i64 (n:Int))).run Tryd.prog w = .ok (.slice (some ⟨w.heap.size,0,none⟩) n n) (w.alloc (.cells (madeCells #[.int .u8 0] n) 5)):=by
 obtain⟨i0,hi,hz0,hz1,hz2⟩:=info_parts infoU8
 have h:=run_make w 34 5 i0 (.int .u8 0) Tryd.underlying34 hi hz0 .i64 .i64 n n (by omega) (by omega) (by rw[hz2];omega) (by omega)
 rw[hz1] at h
 simpa [Value.cells] using h
theorem madeCells_toList (n:Nat):(madeCells #[.int .u8 0] n).toList=List.replicate n (.int .u8 0):=by
 apply List.ext_getElem?
 intro i
 by_cases hi:i < n
 ·simp[madeCells,hi,List.getElem?_replicate,Nat.mod_one]
 ·simp[madeCells,hi,List.getElem?_replicate]
theorem OwnB.full (w:World) (n:Nat) (hn:n<=140737488355328):OwnB (w.alloc (.cells (madeCells #[.int .u8 0] n) 5)) (.slice (some ⟨w.heap.size,0,none⟩) n n) (List.replicate n 0):=by
 refine⟨⟨by simp,.inr ⟨w.heap.size,n,madeCells #[.int .u8 0] n,by simp,Nat.zero_le _,heap_alloc_new w _,by simp,by unfold maxLen;omega,by simp[size_madeCells],?_⟩⟩,by simp⟩
 rw[madeCells_toList]
 simp
theorem OwnB.nil (w:World):OwnB w (.slice none 0 0) []:=⟨World.ownsRow_nil _ _ _ _,by simp⟩
theorem OwnB.drewN {w:World} {v:Value} {l:List Nat} (h:OwnB w v l) (n:Nat):OwnB (w.drewN n) v l:=h
def Fresh (w w':World) (v:Value) (l:List Nat):Prop:=OwnB w' v l/\∀ g,v.ownBlock=some g->w.heap.size<=g
theorem Fresh.keep {w w1 w2:World} {v:Value} {l:List Nat} (h:Fresh w w1 v l) (hb:Nb w1 w2):Fresh w w2 v l:=⟨h.1.keep (F:=fun _=>False) (Kp.ofNb hb) (by simp),h.2⟩
theorem Bs.none_len {w:World} {c:Nat} {l:List Nat} (h:Bs w none c l):l=[]:=by
 cases l with
 | nil=>rfl
 | cons x l =>
   obtain⟨_,_,h,_⟩:=h.hcells (by simp)
   cases h
theorem Bs.three (w:World) (t:TypeId):Bs (w.alloc (.cells #[.int .u8 1,.int .u8 0,.int .u8 1] t)) (some ⟨w.heap.size,0,none⟩) 3 [1,0,1] :=
 ⟨Nat.le_refl _,by simp[maxLen],by simp,fun _=>⟨_,_,rfl,fun j hj=>by
  match j,hj with
  | 0,_=>simp
  | 1,_=>simp
  | 2,_=>simp⟩⟩
theorem Fresh.bs {w w':World} {a:Option Addr} {c:Nat} {l:List Nat} (h:Fresh w w' (.slice a l.length c) l):Bs w' a c l/\(a=none->c=0):=by
 have h0:=h.1
 obtain⟨a',c',hv,hb,_⟩:=h0.bs
 simp only[Value.slice.injEq,true_and] at hv
 obtain⟨rfl,rfl⟩:=hv
 refine⟨hb,fun ha => ?_⟩
 rcases h0.1.2 with ⟨h1,_⟩ | ⟨g,cap,cur,h1,_⟩
 ·simp only[Value.slice.injEq] at h1
  exact h1.2.2
 ·subst ha
  cases h1
theorem chk_sub {l m:List Nat} (h:chk l=true) (hm:∀ x∈m,x∈l) (hl:m.length<=l.length):chk m=true:=by
 have h1:=chk_len h
 have h2:=chk_bit h
 simp only[chk,Bool.and_eq_true,decide_eq_true_eq,List.all_eq_true]
 exact⟨by omega,fun x hx=>h2 x (hm x hx)⟩
theorem Bs.head {w:World} {a:Option Addr} {cap:Nat} {l:List Nat} (h:Bs w a cap l) (n:Nat):Bs w a cap (l.take n):=by
 have hc:=h.hcap
 refine⟨by rw[List.length_take];omega,h.hmax,fun x hx=>h.hbyte x (List.mem_of_mem_take hx),fun h0 => ?_⟩
 rw[List.length_take] at h0
 obtain⟨b,o,ha,hcl⟩:=h.hcells (by omega)
 refine⟨b,o,ha,fun j hj => ?_⟩
 rw[List.length_take] at hj
 rw[hcl j (by omega)]
 simp[List.getD,show j < n by omega]
theorem Bs.cut {w:World} {b o cap:Nat} {l:List Nat} (h:Bs w (some ⟨b,o,none⟩) cap l) (i n:Nat) (hi:i+n<=l.length):Bs w (some ⟨b,o+i,none⟩) (cap - i) ((l.drop i).take n):=by
 have hlen:((l.drop i).take n).length=n:=by rw[List.length_take,List.length_drop];omega
 have hc:=h.hcap
 have hm:=h.hmax
 refine⟨by omega,by omega,fun x hx=>h.hbyte x (List.mem_of_mem_drop (List.mem_of_mem_take hx)),fun h0=>⟨b,o+i,rfl,fun j hj => ?_⟩⟩
 obtain⟨b',o',he,hcl⟩:=h.hcells (by omega)
 simp only[Option.some.injEq,Addr.mk.injEq,and_true] at he
 obtain⟨rfl,rfl⟩:=he
 have:=hcl (i+j) (by omega)
 rw[Nat.add_assoc,this]
 simp[List.getD,show j < n by omega]
theorem Bs.tail {w:World} {b o cap:Nat} {l:List Nat} (h:Bs w (some ⟨b,o,none⟩) cap l) (i:Nat) (hi:i<=l.length):Bs w (some ⟨b,o+i,none⟩) (cap - i) (l.drop i):=by
 have:=h.cut i (l.length - i) (by omega)
 rwa[List.take_of_length_le (by rw[List.length_drop];omega)] at this
theorem OwnB.fresh0 (w:World):OwnB (w.alloc (.cells #[] 5)) (.slice (some ⟨w.heap.size,0,none⟩) 0 0) [] :=
 ⟨⟨by simp,.inr ⟨w.heap.size,0,#[],by simp,Nat.zero_le _,heap_alloc_new w _,Nat.zero_le _,by simp[maxLen],by simp,by simp⟩⟩,by simp⟩
theorem xor1 (m:Nat) (h:m<=1):bits BinOp.xor IntKind.u8 (m:Int) 1=((m ^^^ 1:Nat):Int):=by
 rcases (by omega:m=0\/m=1) with rfl | rfl<;>decide +kernel
theorem xor1_le (m:Nat) (h:m<=1):m ^^^ 1<=1:=by
 rcases (by omega:m=0\/m=1) with rfl | rfl<;>decide
theorem xor1_ne (m:Nat) (h:m<=1):m ^^^ 1≠m:=by
 rcases (by omega:m=0\/m=1) with rfl | rfl<;>decide
theorem set_bits {m:List Nat} (h:∀ b∈m,b<=1) (k y:Nat) (hy:y<=1):∀ b∈m.set k y,b<=1:=fun b hb=>by
 rcases List.mem_or_eq_of_mem_set hb with h1 | rfl
 ·exact h b h1
 ·exact hy
theorem set_getD (m:List Nat) (k y i:Nat) (hk:k < m.length):(m.set k y).getD i 0=if i=k then y else m.getD i 0:=by
 by_cases h:i=k
 ·subst h;simp[List.getD,hk]
 ·simp[List.getD,List.getElem?_set_ne (Ne.symm h),h]
theorem OwnB.cell {w:World} {g n cap:Nat} {m:List Nat} (h:OwnB w (.slice (some ⟨g,0,none⟩) n cap) m) (k:Nat) (hk:k < m.length):w.cell? ⟨g,k,none⟩=some (.int .u8 ((m.getD k 0:Nat):Int)):=by
 obtain⟨a',c',hv,hb,_⟩:=h.bs
 obtain⟨b',o',rfl,hc⟩:=hb.hcells (by omega)
 simp only[Value.slice.injEq,Option.some.injEq,Addr.mk.injEq,and_true] at hv
 obtain⟨⟨rfl,rfl⟩,_,_⟩:=hv
 have:=hc k hk
 rwa[Nat.zero_add] at this
theorem OwnB.asBs {w:World} {a:Option Addr} {n c:Nat} {l:List Nat} (h:OwnB w (.slice a n c) l):Bs w a c l/\n=l.length:=by
 obtain⟨a',c',hv,hb,_⟩:=h.bs
 simp only[Value.slice.injEq] at hv
 obtain⟨rfl,rfl,rfl⟩:=hv
 exact⟨hb,rfl⟩
def goodB (n:Nat):Bool:=decide (n<=3000)||decide (65536 < n)
theorem hcf (F : Nat) (fn : Func) (hf : Tryd.prog.funcs[F]? = some fn) (hb : fn.body.isNone = false) (hn : (fn.name == "runtime.NumGoroutine") = false) : ∀ args w, (callFunc F args).run Tryd.prog w = .ok (.enter F args) w := by
 intro args w
 have h1 : ¬ fn.name = "runtime.NumGoroutine" := by simpa using hn
 have h2:¬fn.body=none:=by intro h;rw[h] at hb;simp at hb
 simp[callFunc,hf,h1,h2]
theorem Bs.ofRow {w:World} {a:Option Addr} {len cap:Nat} {zs:List Int}
    (h:(a=none/\len=0/\cap=0/\zs=[])\/∃ x,a=some x/\len<=cap/\cap<=maxLen/\zs.length=cap/\(∀ i,i < zs.length->w.cell? (x.add i)=some (.int .u8 (zs.getD i 0)))/\∀ n∈zs,(Lit.int .u8 n).wf=true) :
    ∃ l:List Nat,len=l.length/\Bs w a cap l:=by
 rcases h with ⟨rfl,rfl,rfl,rfl⟩ | ⟨x,rfl,hl,hm,hz,hc,hw⟩
 ·exact⟨[],rfl,Bs.nil w⟩
 ·have hb:∀ n∈zs,0<=n/\n < 256:=by
   intro n hn
   have:=hw n hn
   simp[Lit.wf,IntKind.min,IntKind.max,IntKind.signed,IntKind.bits] at this
   omega
  refine⟨(zs.take len).map Int.toNat,by rw[List.length_map,List.length_take];omega,?_⟩
  have hlen:((zs.take len).map Int.toNat).length=len:=by rw[List.length_map,List.length_take];omega
  refine⟨by omega,hm,?_,fun h0 => ?_⟩
  ·intro n hn
   obtain⟨y,hy,rfl⟩:=List.mem_map.1 hn
   have:=hb y (List.mem_of_mem_take hy)
   omega
  ·obtain⟨b,o,s⟩:=x
   have h1:=hc 0 (by omega)
   have hs:s=none:=by simpa [Addr.add] using World.cell?_spot h1
   subst hs
   refine⟨b,o,rfl,fun j hj => ?_⟩
   have h2:=hc j (by omega)
   rw[Addr.add_lit] at h2
   rw[h2]
   have hj':j < zs.length:=by omega
   have hn:=hb zs[j] (List.getElem_mem hj')
   have e1:zs.getD j 0=zs[j]:=by simp[List.getD,hj']
   have e2:((zs.take len).map Int.toNat).getD j 0=zs[j].toNat:=by
    simp only[List.getD,List.getElem?_map,List.getElem?_take,show j < len from by omega,if_true,List.getElem?_eq_getElem hj',Option.map_some,Option.getD_some]
   rw[e1,e2]
   congr 2
   omega
def chkE (l:List Nat):Nat:=if chk l then 0 else 2
def AnsB (l:List Nat) (er:Nat) (e:Ending) (w':World):Prop:=∃ a c,e = .returned (.tuple #[.slice a l.length c,.int .i64 er])/\Bs w' a c l
def AnsL (l:List Nat) (e:Ending) (w':World):Prop:=∃ a c,e = .returned (.slice a l.length c)/\Bs w' a c l
theorem u64_of_wf {a:Int} (h:(Lit.int .u64 a).wf=true):∃ n:Nat,a=n/\n < 2^64:=by
 have:0<=a/\a < 18446744073709551616:=by
  simp[Lit.wf,IntKind.min,IntKind.max,IntKind.signed,IntKind.bits] at h
  omega
 obtain⟨n,rfl⟩:=Int.eq_ofNat_of_zero_le this.1
 exact⟨n,rfl,by omega⟩
theorem u8_of_wf {a:Int} (h:(Lit.int .u8 a).wf=true):∃ n:Nat,a=n/\n < 256:=by
 have:0<=a/\a < 256:=by
  simp[Lit.wf,IntKind.min,IntKind.max,IntKind.signed,IntKind.bits] at h
  omega
 obtain⟨n,rfl⟩:=Int.eq_ofNat_of_zero_le this.1
 exact⟨n,rfl,by omega⟩
def AnsF (w:World) (l:List Nat) (er:Nat) (e:Ending) (w':World):Prop:=∃ a c,e = .returned (.tuple #[.slice a l.length c,.int .i64 er])/\Fresh w w' (.slice a l.length c) l
theorem Fresh.nil (w w':World):Fresh w w' (.slice none 0 0) []:=⟨OwnB.nil _,by simp[Value.ownBlock]⟩
theorem Fresh.app {w0 w w':World} {v v':Value} {l l':List Nat} {o:Obj} (h:Fresh w0 w v l) (hnb:Nb w0 w) (ho:OwnB w' v' l') (hk:Kp (fun k=>v.ownBlock=some k) (w.alloc o) w') (hf:∀ g,v'.ownBlock=some g->v.ownBlock=some g\/w.heap.size+1<=g):Fresh w0 w' v' l'/\Nb w0 w':=by
 have hs:=hnb.size
 refine⟨⟨ho,fun g hg => ?_⟩,(hnb.al o).trans (hk.toBelow (Nat.le_trans hs (by simp)) h.2)⟩
 rcases hf g hg with h1 | h1
 ·exact h.2 g h1
 ·omega
theorem run_min2 (w:World) (ts:Array TypeId) (t:TypeId) (k k':IntKind) (x y:Int) :
    (Builtin.min_ ts t #[.int k x,.int k' y]).run Tryd.prog w = .ok (.int k (min x y)) w:=by
 have e:(if y < x then y else x)=min x y:=by
  rw[Int.min_def]
  split<;>split<;>omega
 simp[Builtin.min_,Builtin.min2,e]
end Go.Proofs.YtlmbggmamemmjaaDoor
namespace Go.Proofs.YtlmbggmamemmjaaDoor
set_option linter.unusedVariables false
set_option linter.unusedSimpArgs false
open Go.RowKit
theorem u16_of_wf {a:Int} (h:(Lit.int .u16 a).wf=true):∃ n:Nat,a=n/\n < 65536:=by
 have:0<=a/\a < 65536:=by
  simp[Lit.wf,IntKind.min,IntKind.max,IntKind.signed,IntKind.bits] at h
  omega
 obtain⟨n,rfl⟩:=Int.eq_ofNat_of_zero_le this.1
 exact⟨n,rfl,by omega⟩
theorem bytesU8:Tryd.prog.bytesOf 5=1:=by kernel_rfl
theorem bytes_of_trod {H:Type} {enc:TypeId × Value->H} {w:World} {fuel:Nat} {v:Value} {y:DataW H × List MemPlace}
    (h:DataW.trod enc Tryd.prog w 0 (fun _=>true) true fuel 34 [v]=some y) (hr:(y.1.weights Tryd.prog 34).all (·<=reachBytes)=true) :
    ∃ a cap l,v = .slice a (List.length l) cap/\Bs w a cap l/\(a=none->cap=0)/\cap<=140737488351232:=by
 rcases Go.ChangeShapes.open_ints Tryd.underlying34 Tryd.underlying5 (by kernel_rfl) h with ⟨hcs,_⟩ | ⟨x,l,c,zs,hcs,_,hl,hm,hz,hy,hcell,hwz⟩
 ·simp at hcs
  exact⟨none,0,[],by simpa using hcs,Bs.nil w,fun _=>rfl,by omega⟩
 ·simp at hcs
  obtain⟨l',hl',hb⟩:=Bs.ofRow (w:=w) (a:=some x) (len:=l) (cap:=c) (zs:=zs) (.inr ⟨x,rfl,hl,hm,by simpa using hz,hcell,hwz⟩)
  subst hl'
  refine⟨some x,c,l',hcs,hb,by simp,?_⟩
  subst hy
  simp only[DataW.weights,Tryd.underlying34,List.all_cons,Bool.and_eq_true,decide_eq_true_eq,bytesU8,Go.ChangeShapes.lits,List.length_map,List.length_take,List.length_drop,reachBytes] at hr
  simp only[if_true] at hz
  have h1:=of_decide_eq_true hr.1
  rw[Nat.mul_one] at h1
  have h2:min l'.length zs.length=l'.length:=Nat.min_eq_left (by omega)
  rw[h2] at h1
  omega
theorem bytes_of_slice {H:Type} {enc:TypeId × Value->H} {w:World} {fuel:Nat} {a:Option Addr} {len cap:Nat} {d:DataW H} {p:List MemPlace}
    (h:DataW.trod enc Tryd.prog w 0 (fun _=>true) true fuel 34 [.slice a len cap]=some (d,p)) (hr:(d.weights Tryd.prog 34).all (·<=reachBytes)=true):∃ l,len=List.length l/\Bs w a cap l/\(a=none->cap=0)/\cap<=140737488351232:=by
 obtain⟨a',cap',l,e,hb,hn,hc⟩:=bytes_of_trod h hr
 simp only[Value.slice.injEq] at e
 obtain⟨rfl,rfl,rfl⟩:=e
 exact⟨l,rfl,hb,hn,hc⟩
end Go.Proofs.YtlmbggmamemmjaaDoor
namespace Go.Proofs.YtlmbggmamemmjaaDoor
set_option linter.unusedVariables false
set_option linter.unusedSimpArgs false
open Go.RowKit Go.ChangeShapes Go.WideShapes
theorem open_fld {H:Type} {enc:TypeId × Value->H} {P:Program} {w:World} {base:Nat} {spare:Nat->Bool} {held:Bool} {fuel:Nat} {t:TypeId} {cs:List Value} {x:DataW H × List MemPlace} {fs:Array Field}
    (hs:P.underlying t=some (.struct fs)) (h:DataW.trod enc P w base spare held fuel t cs=some x) (i:Nat) (f:Field) (hi:fs[i]? = some f) :
    ∃ m y,DataW.trod enc P w base spare held m f.type ((cs.drop f.offset).take (P.cellsOf f.type))=some y:=by
 obtain⟨xs,n,_,_,_,hlen,hf⟩:=DataW.trod_struct hs h
 have hb:i < xs.length:=by rw[hlen];exact (Array.getElem?_eq_some_iff.1 hi).1
 exact⟨n,xs[i],by rw[hf i f hi,List.getElem?_eq_getElem hb]⟩
theorem bytes_open {H:Type} {enc:TypeId × Value->H} {w:World} {fuel:Nat} {v:Value} {y:DataW H × List MemPlace}
    (h:DataW.trod enc Tryd.prog w 0 (fun _=>true) true fuel 34 [v]=some y) :
    ∃ a cap l,v = .slice a (List.length l) cap/\Bs w a cap l/\(a=none->cap=0):=by
 rcases Go.ChangeShapes.open_ints Tryd.underlying34 Tryd.underlying5 (by kernel_rfl) h with ⟨hcs,_⟩ | ⟨x,l,c,zs,hcs,_,hl,hm,hz,hy,hcell,hwz⟩
 ·simp at hcs
  exact⟨none,0,[],by simpa using hcs,Bs.nil w,fun _=>rfl⟩
 ·simp at hcs
  obtain⟨l',hl',hb⟩:=Bs.ofRow (w:=w) (a:=some x) (len:=l) (cap:=c) (zs:=zs) (.inr ⟨x,rfl,hl,hm,by simpa using hz,hcell,hwz⟩)
  subst hl'
  exact⟨some x,c,l',hcs,hb,by simp⟩
def cutA (a:Option Addr) (cap k:Nat):Option Addr:=if cap=k then a else a.map (·.add k)
theorem elemU8:Tryd.prog.elem 34=5:=by kernel_rfl
theorem sizeU8 (w:World):(sizeOf 5).run Tryd.prog w = .ok 1 w:=by kernel_rfl
theorem run_cutH (a:Option Addr) (len cap k:Nat) (hk:k<=cap) (w:World) :
    (Instr.sliceAt 34 (.slice a len cap) none (some (.int .i64 (k:Int))) none).run Tryd.prog w = .ok (.slice a k cap) w:=by
 have ht:Tryd.prog.underlying 34=some (.slice (Tryd.prog.elem 34)):=by kernel_rfl
 rw[run_sliceAt_slice _ _ _ _ _ _ ht,run_slice_h w _ a len cap ht .i64 (k:Int) (by omega) (by omega),elemU8,sizeU8]
 simp only[Result.andThen,sliced,Nat.zero_mul,Nat.sub_zero,Int.toNat_natCast]
 cases a with
 | none=>simp
 | some a=>simp[Addr.add]
theorem run_cutL (a:Option Addr) (len cap k:Nat) (hk:k<=len) (w:World) :
    (Instr.sliceAt 34 (.slice a len cap) (some (.int .i64 (k:Int))) none none).run Tryd.prog w = .ok (.slice (cutA a cap k) (len - k) (cap - k)) w:=by
 have ht:Tryd.prog.underlying 34=some (.slice (Tryd.prog.elem 34)):=by kernel_rfl
 rw[run_sliceAt_slice _ _ _ _ _ _ ht,run_slice_l w _ a len cap ht .i64 (k:Int) (by omega) (by omega),elemU8,sizeU8]
 simp only[Result.andThen,sliced,Nat.mul_one,Int.toNat_natCast,cutA]
theorem Bs.cutL {w:World} {a:Option Addr} {cap:Nat} {l:List Nat} (h:Bs w a cap l) (k:Nat) (hk:k<=l.length):Bs w (cutA a cap k) (cap - k) (l.drop k):=by
 have hc:=h.hcap
 have hm:=h.hmax
 unfold cutA
 by_cases hz:l.drop k=[]
 ·rw[hz]
  exact⟨Nat.zero_le _,by omega,by simp,by simp⟩
 ·have h1:0 < (l.drop k).length:=List.length_pos_iff.2 hz
  rw[List.length_drop] at h1
  obtain⟨b,o,rfl,_⟩:=h.hcells (by omega)
  rw[if_neg (by omega)]
  have:=h.tail k hk
  by_cases h0:k=0
  ·subst h0;simpa [Addr.add] using this
  ·simpa [Addr.add,h0] using this
theorem wpList_want {P:Program} {ops:Array Oper} {Q:Exit->Act->World->Prop} {a:Act} {w:World} {rest:List Oper} {o:Oper}
    (hw:Region.wanted o (yielded ops a.tmps)=true) (h:wpList P ops Q ({ o with guard:=none }::rest) a w):wpList P ops Q (o::rest) a w:=by
 have h2:Region.wanted { o with guard:=none } (yielded ops a.tmps)=true:=rfl
 unfold wpList at h ⊢
 rw[if_pos hw]
 rw[if_pos h2] at h
 exact h
end Go.Proofs.YtlmbggmamemmjaaDoor
namespace Go.Proofs.YtlmbggmamemmjaaDoor
set_option linter.unusedVariables false
set_option linter.unusedSimpArgs false
open Go.RowKit
def strOf (l:List Nat):ByteArray:=⟨(l.map UInt8.ofNat).toArray⟩
theorem strOf_size (l:List Nat):(strOf l).size=l.length:=by simp[strOf,ByteArray.size]
theorem strOf_get (l:List Nat) (hl:∀ x∈l,x < 256) (k x:Nat) (hx:l[k]? = some x) (h:k < (strOf l).size):((strOf l)[k]'h).toNat=x:=by
 have e:(strOf l)[k]'h=(l.map UInt8.ofNat)[k]'(by simpa [strOf,ByteArray.size] using h):=rfl
 have h2:=hl x (List.mem_of_getElem? hx)
 have h3:l[k]'(by simpa [strOf_size] using h)=x:=by
  have:=(List.getElem?_eq_some_iff.1 hx).2
  exact this
 rw[e,List.getElem_map,h3]
 simp
 omega
theorem strOf_inj {l l':List Nat} (hl:∀ x∈l,x < 256) (hl':∀ x∈l',x < 256) (h:(strOf l).toList=(strOf l').toList):l=l':=by
 have e:∀ l:List Nat,(strOf l).toList=l.map UInt8.ofNat:=fun l=>by simp[strOf]
 rw[e,e] at h
 have h2:=congrArg (List.map UInt8.toNat) h
 rw[List.map_map,List.map_map] at h2
 have e2:∀ l:List Nat,(∀ x∈l,x < 256)->l.map (UInt8.toNat∘UInt8.ofNat)=l:=by
  intro l hl
  refine (List.map_congr_left fun x hx => ?_).trans (List.map_id l)
  have:=hl x hx
  simp
  omega
 rwa[e2 l hl,e2 l' hl'] at h2
theorem strOf_eql (l l':List Nat) (hl:∀ x∈l,x < 256) (hl':∀ x∈l',x < 256):((strOf l).toList==(strOf l').toList)=decide (l=l'):=by
 by_cases h:l=l'
 ·subst h;simp
 ·have:¬(strOf l).toList=(strOf l').toList:=fun e=>h (strOf_inj hl hl' e)
  simp[h,this]
theorem strOf_append (l l':List Nat):strOf l++strOf l'=strOf (l++l'):=by
 apply ByteArray.ext
 simp[strOf]
def bytesOf (s:ByteArray):List Nat:=s.data.toList.map UInt8.toNat
theorem bytesOf_lt (s:ByteArray):∀ x∈bytesOf s,x < 256:=by
 intro x hx
 obtain⟨b,_,rfl⟩:=List.mem_map.1 hx
 exact b.toNat_lt
theorem strOf_bytesOf (s:ByteArray):strOf (bytesOf s)=s:=by
 apply ByteArray.ext
 have:(UInt8.ofNat∘UInt8.toNat)=id:=funext fun x=>by simp
 simp[strOf,bytesOf,this]
theorem foldl_push (l:List Nat):∀ s:ByteArray,(l.map Int.ofNat).foldl (fun r n=>r.push (UInt8.ofNat n.toNat)) s=s++strOf l:=by
 induction l with
 | nil=>intro s;apply ByteArray.ext;simp[strOf]
 | cons x l ih =>
   intro s
   rw[List.map_cons,List.foldl_cons,ih]
   apply ByteArray.ext
   simp[strOf]
theorem run_convB (w:World) (a:Option Addr) (cap:Nat) (l:List Nat) (h:Bs w a cap l) :
    (convert 34 9 (.slice a l.length cap)).run Tryd.prog w = .ok (.string (strOf l)) w:=by
 rw[run_convert_bytes_string w _ _ 5 a l.length cap Tryd.underlying34 Tryd.underlying5 Tryd.underlying9]
 cases a with
 | none =>
   have:l=[]:=by
    cases l with
    | nil=>rfl
    | cons x l=>obtain⟨_,_,h,_⟩:=h.hcells (by simp);cases h
   subst this
   rfl
 | some ad =>
   have hload:(loadCells ad l.length).run Tryd.prog w = .ok ((l.map Int.ofNat).map (Value.int .u8)).toArray w:=by
    have:=run_loadCells_list (P:=Tryd.prog) w ad ((l.map Int.ofNat).map (Value.int .u8)) ?_
    ·simpa using this
    ·intro j v hv
     have hj:j < l.length:=by
      have:=(List.getElem?_eq_some_iff.1 hv).1
      simpa using this
     obtain⟨b,o,hb,hc⟩:=h.hcells (by omega)
     obtain rfl:=Option.some.inj hb
     rw[Addr.add_lit,hc j hj,<- hv]
     simp[List.getD,hj]
   rw[run_bytesToString w ad l.length cap (l.map Int.ofNat) hload,foldl_push]
   simp
theorem bequal_any (a a':Option Addr) (cap cap':Nat) (l l':List Nat) (w:World) (h:Bs w a cap l) (h':Bs w a' cap' l') :
    Calls Tryd.prog 33 #[.slice a l.length cap,.slice a' l'.length cap'] w fun e w'=>e = .returned (.bool (decide (l=l')))/\w=w':=by
 have c1:=run_convB w a cap l h
 have c2:=run_convB w a' cap' l' h'
 have e:=strOf_eql l l' h.hbyte h'.hbyte
 have E:=Lib.hid e
 clear e h h'
 go_enter Tryd.func33,Tryd.ntmps33
 go_wp2
 go_ret
 exact⟨by rw[<- E.out];rfl,rfl⟩
end Go.Proofs.YtlmbggmamemmjaaDoor
