/- A queue of frames (layer 14) as lists: what waits, in order; what its calls leave and answer. No program here. No conditions. What layer 14's contracts speak of: items as a slice, the queue behind a call. No program's own parts. No conditions. Rows of items (layer 14): appended to in the own call, read. No conditions. Rows of items in a block (layer 14): read, stored into at a place. No conditions. An append of items as a step of a region whose order is drawn (layer 14's document). No conditions. -/
import Derived.Test.YtdedoeeekcfkpaaDoorGhh
import Derived.Test.YtdedoeeekcfkpaaDoorGor
import Derived.Deep.MidRow
import Derived.Deep.RegionLawGrows
import Derived.OwnWalk
namespace Go.Proofs.YtdedoeeekcfkpaaDoor
set_option linter.unusedVariables false
set_option linter.unusedSimpArgs false
open Go.RowKit
structure It where
 no:Nat
 f:Hd
 l:List Nat
structure Qu where
 room:Nat
 last:Nat
 its:List It
abbrev dI:It:=⟨0,⟨0,0,false,false,false,false,false,0,0,0⟩,[]⟩
def ItLt (x y:It):Prop:=keyF x.f < keyF y.f\/(keyF x.f=keyF y.f/\x.no < y.no)
def insI (x:It):List It->List It
 | []=>[x]
 | y::L=>if keyF y.f<=keyF x.f then y::insI x L else x::y::L
def Qu.putE (q:Qu) (f:Hd) (l:List Nat):Nat:=if okF f l=false then 2 else if q.room<=q.its.length then 8 else 0
def Qu.put (q:Qu) (f:Hd) (l:List Nat):Qu:=if q.putE f l=0 then ⟨q.room,q.last+1,insI ⟨q.last+1,f,l⟩ q.its⟩ else q
def Qu.putN (q:Qu) (f:Hd) (l:List Nat):Nat:=if q.putE f l=0 then q.last+1 else 0
def Qu.head (q:Qu):It:=q.its.getD 0 dI
def Qu.headE (q:Qu):Nat:=if q.its.length=0 then 9 else 0
def Qu.take (q:Qu):Qu:=⟨q.room,q.last,q.its.drop 1⟩
def hasI (n:Int) (L:List It):Bool:=L.any fun x=>((x.no:Nat):Int)==n
def delI (n:Int) (L:List It):List It:=L.filter fun x=>((x.no:Nat):Int) != n
def Qu.cancelE (q:Qu) (n:Int):Nat:=if hasI n q.its then 0 else 9
def Qu.cancel (q:Qu) (n:Int):Qu:=⟨q.room,q.last,delI n q.its⟩
structure Qu.Ok (q:Qu):Prop where
 room:q.its.length<=q.room
 sort:q.its.Pairwise ItLt
 apart:q.its.Pairwise fun x y=>x.no≠y.no
 nos:∀ x∈q.its,1<=x.no/\x.no<=q.last
 ok:∀ x∈q.its,okF x.f x.l=true
theorem ItLt.trans {x y z:It} (h:ItLt x y) (g:ItLt y z):ItLt x z:=by
 unfold ItLt at *
 omega
theorem ItLt.irr (x:It):¬ItLt x x:=by
 unfold ItLt
 omega
theorem insI_len (x:It):∀ L:List It,(insI x L).length=L.length+1:=by
 intro L
 induction L with
 | nil=>rfl
 | cons y L ih =>
   unfold insI
   split
   ·simp[ih]
   ·simp
theorem insI_mem (x:It):∀ (L:List It) (z:It),z∈insI x L↔z=x\/z∈L:=by
 intro L
 induction L with
 | nil=>intro z;simp[insI]
 | cons y L ih =>
   intro z
   unfold insI
   split
   ·rw[List.mem_cons,ih,List.mem_cons]
    constructor
    ·rintro (h | h | h)
     ·exact .inr (.inl h)
     ·exact .inl h
     ·exact .inr (.inr h)
    ·rintro (h | h | h)
     ·exact .inr (.inl h)
     ·exact .inl h
     ·exact .inr (.inr h)
   ·rw[List.mem_cons]
theorem insI_sort (x:It):∀ L:List It,L.Pairwise ItLt->(∀ y∈L,y.no < x.no)->(insI x L).Pairwise ItLt:=by
 intro L
 induction L with
 | nil=>intro _ _;simp[insI]
 | cons y L ih =>
   intro h hn
   rw[List.pairwise_cons] at h
   unfold insI
   split
   ·rename_i hk
    rw[List.pairwise_cons]
    refine⟨fun z hz => ?_,ih h.2 fun z hz=>hn z (List.mem_cons_of_mem _ hz)⟩
    rcases (insI_mem x L z).1 hz with rfl | hz
    ·have:=hn y List.mem_cons_self
     unfold ItLt
     omega
    ·exact h.1 z hz
   ·rename_i hk
    have hx:ItLt x y := .inl (by omega)
    rw[List.pairwise_cons]
    refine⟨fun z hz => ?_,List.pairwise_cons.2 h⟩
    rcases List.mem_cons.1 hz with rfl | hz
    ·exact hx
    ·exact hx.trans (h.1 z hz)
theorem insI_apart (x:It):∀ L:List It,L.Pairwise (fun x y=>x.no≠y.no)->(∀ y∈L,y.no < x.no)->(insI x L).Pairwise fun x y=>x.no≠y.no:=by
 intro L
 induction L with
 | nil=>intro _ _;simp[insI]
 | cons y L ih =>
   intro h hn
   rw[List.pairwise_cons] at h
   have hy:=hn y List.mem_cons_self
   unfold insI
   split
   ·rw[List.pairwise_cons]
    refine⟨fun z hz => ?_,ih h.2 fun z hz=>hn z (List.mem_cons_of_mem _ hz)⟩
    rcases (insI_mem x L z).1 hz with rfl | hz
    ·omega
    ·exact h.1 z hz
   ·rw[List.pairwise_cons]
    refine⟨fun z hz => ?_,List.pairwise_cons.2 h⟩
    have:=hn z hz
    omega
theorem Qu.Ok.put {q:Qu} (h:q.Ok) (f:Hd) (l:List Nat):(q.put f l).Ok:=by
 unfold Qu.put
 split
 ·rename_i he
  unfold Qu.putE at he
  by_cases h1:okF f l=false
  ·rw[if_pos h1] at he;omega
  rw[if_neg h1] at he
  by_cases h2:q.room<=q.its.length
  ·rw[if_pos h2] at he;omega
  refine⟨?_,insI_sort _ _ h.sort fun y hy=>Nat.lt_succ_of_le (h.nos y hy).2,insI_apart _ _ h.apart fun y hy=>Nat.lt_succ_of_le (h.nos y hy).2,fun x hx => ?_,fun x hx => ?_⟩
  ·rw[insI_len];simp only;omega
  ·rcases (insI_mem _ _ _).1 hx with rfl | hx
   ·simp
   ·have:=h.nos x hx
    simp only
    omega
  ·rcases (insI_mem _ _ _).1 hx with rfl | hx
   ·simpa using h1
   ·exact h.ok x hx
 ·exact h
theorem Qu.Ok.sub {q:Qu} (h:q.Ok) {L:List It} (hs:L.Sublist q.its):(⟨q.room,q.last,L⟩:Qu).Ok :=
 ⟨Nat.le_trans hs.length_le h.room,h.sort.sublist hs,h.apart.sublist hs,fun x hx=>h.nos x (hs.subset hx),fun x hx=>h.ok x (hs.subset hx)⟩
theorem Qu.Ok.take {q:Qu} (h:q.Ok):q.take.Ok:=h.sub (List.drop_sublist 1 _)
theorem Qu.Ok.cancel {q:Qu} (h:q.Ok) (n:Int):(q.cancel n).Ok:=h.sub List.filter_sublist
theorem Qu.Ok.new (room:Nat):(⟨room,0,[]⟩:Qu).Ok:=⟨Nat.zero_le _,List.Pairwise.nil,List.Pairwise.nil,by simp,by simp⟩
def Qu.puts (q:Qu) (fs:List (Hd × List Nat)):Qu:=fs.foldl (fun q p=>q.put p.1 p.2) q
theorem Qu.puts_snoc (q:Qu) (fs:List (Hd × List Nat)) (p:Hd × List Nat):q.puts (fs++[p])=(q.puts fs).put p.1 p.2:=by simp[Qu.puts]
structure Qu.Full (q:Qu):Prop where
 ok:q.Ok
 len:q.its.length=q.last
 all:∀ k,1<=k->k<=q.last->∃ x∈q.its,x.no=k
theorem Qu.Full.new (room:Nat):(⟨room,0,[]⟩:Qu).Full:=⟨Qu.Ok.new room,rfl,fun k h1 h2=>by simp only at h2;omega⟩
theorem Qu.put_go {q:Qu} {f:Hd} {l:List Nat} (h:q.putE f l=0):q.put f l=⟨q.room,q.last+1,insI ⟨q.last+1,f,l⟩ q.its⟩:=if_pos h
theorem Qu.put_no {q:Qu} {f:Hd} {l:List Nat} (h:q.putE f l≠0):q.put f l=q:=if_neg h
theorem Qu.Full.put {q:Qu} (h:q.Full) (f:Hd) (l:List Nat):(q.put f l).Full:=by
 refine⟨h.ok.put f l,?_,fun k h1 h2 => ?_⟩
 ·by_cases he:q.putE f l=0
  ·rw[Qu.put_go he]
   simp only[insI_len,h.len]
  ·rw[Qu.put_no he];exact h.len
 ·by_cases he:q.putE f l=0
  ·rw[Qu.put_go he] at h2 ⊢
   simp only at h2
   by_cases hk:k=q.last+1
   ·exact⟨_,(insI_mem _ _ _).2 (.inl rfl),hk.symm⟩
   ·obtain⟨x,hx,e⟩:=h.all k h1 (by omega)
    exact⟨x,(insI_mem _ _ _).2 (.inr hx),e⟩
  ·rw[Qu.put_no he] at h2 ⊢
   exact h.all k h1 h2
theorem Qu.Full.puts {q:Qu} (h:q.Full) (fs:List (Hd × List Nat)):(q.puts fs).Full:=by
 induction fs generalizing q with
 | nil=>exact h
 | cons p fs ih=>exact ih (h.put p.1 p.2)
theorem Qu.put_room (q:Qu) (f:Hd) (l:List Nat):(q.put f l).room=q.room:=by
 unfold Qu.put
 split<;>rfl
theorem Qu.puts_room (fs:List (Hd × List Nat)):∀ q:Qu,(q.puts fs).room=q.room:=by
 induction fs with
 | nil=>intro q;rfl
 | cons p fs ih=>intro q;exact (ih _).trans (q.put_room _ _)
theorem has_iff {q:Qu} (h:q.Full) (k:Nat):hasI (k:Nat) q.its=true↔1<=k/\k<=q.last:=by
 unfold hasI
 rw[List.any_eq_true]
 constructor
 ·rintro⟨x,hx,e⟩
  have:=h.ok.nos x hx
  have e2:x.no=k:=by
   have:=eq_of_beq e
   omega
  omega
 ·rintro⟨h1,h2⟩
  obtain⟨x,hx,e⟩:=h.all k h1 h2
  exact⟨x,hx,by rw[e];exact beq_self_eq_true _⟩
theorem has_del (n:Int) (L:List It):hasI n (delI n L)=false:=by
 unfold hasI delI
 rw[List.any_eq_false]
 intro x hx
 have:=(List.mem_filter.1 hx).2
 simpa using this
theorem sort_get {L:List It} (h:L.Pairwise ItLt) {i j:Nat} (hij:i < j) (hj:j < L.length):ItLt (L.getD i dI) (L.getD j dI):=by
 rw[show L.getD i dI=L[i] by simp[List.getD,show i < L.length by omega],show L.getD j dI=L[j] by simp[List.getD,hj]]
 exact List.pairwise_iff_getElem.1 h i j (by omega) hj hij
theorem insI_split (x:It):∀ (L:List It) (k:Nat),k<=L.length->(∀ j,j < k->keyF (L.getD j dI).f<=keyF x.f)->(k < L.length->keyF x.f < keyF (L.getD k dI).f)->insI x L=L.take k++x::L.drop k:=by
 intro L
 induction L with
 | nil=>intro k hk _ _;simp at hk;subst hk;rfl
 | cons y L ih =>
   intro k hk h1 h2
   unfold insI
   cases k with
   | zero =>
     have:=h2 (by simp)
     rw[if_neg (by simpa using this)]
     rfl
   | succ k =>
     have:=h1 0 (by omega)
     rw[if_pos (by simpa using this),ih k (by simpa using hk) (fun j hj=>by simpa using h1 (j+1) (by omega)) (fun h=>by simpa using h2 (by simpa using h))]
     rfl
theorem sort_le {L:List It} (h:L.Pairwise ItLt) {i j:Nat} (hij:i<=j) (hj:j < L.length):keyF (L.getD i dI).f<=keyF (L.getD j dI).f:=by
 by_cases e:i=j
 ·rw[e];exact Nat.le_refl _
 ·have:=sort_get h (show i < j by omega) hj
  unfold ItLt at this
  omega
def Qu.off (q:Qu) (k:Nat):Qu:=⟨q.room,q.last,q.its.drop k⟩
theorem Qu.off_zero (q:Qu):q.off 0=q:=rfl
theorem Qu.off_take (q:Qu) (k:Nat):(q.off k).take=q.off (k+1):=by
 simp[Qu.off,Qu.take,List.drop_drop]
theorem Qu.off_head (q:Qu) {k:Nat} (h:k < q.its.length):(q.off k).head=q.its.getD k dI/\(q.off k).headE=0:=by
 constructor
 ·simp[Qu.off,Qu.head,List.getD]
 ·unfold Qu.headE Qu.off
  rw[if_neg (by simp only[List.length_drop];omega)]
theorem Qu.off_end (q:Qu) {k:Nat} (h:q.its.length<=k):(q.off k).head=dI/\(q.off k).headE=9/\(q.off k).its.length=0:=by
 refine⟨?_,?_,?_⟩
 ·simp[Qu.off,Qu.head,List.getD,List.getElem?_eq_none h]
 ·unfold Qu.headE Qu.off
  rw[if_pos (by simp only[List.length_drop];omega)]
 ·simp only[Qu.off,List.length_drop];omega
theorem it_in {L:List It} {k:Nat} (h:k < L.length):L.getD k dI∈L:=by
 rw[show L.getD k dI=L[k] by simp[List.getD,h]]
 exact List.getElem_mem h
theorem del_split {L:List It} (h:L.Pairwise fun x y=>x.no≠y.no) {k:Nat} (hk:k < L.length):delI (((L.getD k dI).no:Nat):Int) L=L.take k++L.drop (k+1):=by
 induction L generalizing k with
 | nil=>simp at hk
 | cons y L ih =>
   rw[List.pairwise_cons] at h
   unfold delI
   cases k with
   | zero =>
     have e:((y::L).getD 0 dI)=y:=rfl
     rw[e,List.filter_cons,if_neg (by simp)]
     show _=L
     rw[List.filter_eq_self]
     intro z hz
     have:=h.1 z hz
     rw[bne_iff_ne]
     omega
   | succ k =>
     have hk':k < L.length:=by simpa using hk
     have e:((y::L).getD (k+1) dI)=L.getD k dI:=rfl
     have hy:y.no≠(L.getD k dI).no:=h.1 _ (by rw[show L.getD k dI=L[k] by simp[List.getD,hk']];exact List.getElem_mem hk')
     rw[e,List.filter_cons,if_pos (by rw[bne_iff_ne];omega)]
     show y::delI _ L=_
     rw[ih h.2 hk']
     rfl
theorem has_take (n:Int) {L:List It} {k:Nat} (hk:k < L.length):hasI n (L.take (k+1))=(hasI n (L.take k)||(((L.getD k dI).no:Nat):Int)==n):=by
 unfold hasI
 rw[List.take_add_one,List.any_append]
 simp[List.getD,hk]
end Go.Proofs.YtdedoeeekcfkpaaDoor
namespace Go.Proofs.YtdedoeeekcfkpaaDoor
set_option linter.unusedVariables false
set_option linter.unusedSimpArgs false
open Go.RowKit
def itC (x:It) (v:Value):List Value:=[.int .i64 (x.no:Nat),.int .i64 x.f.K,.int .u32 x.f.I,.bool x.f.X,.bool x.f.R,.bool x.f.B,.bool x.f.E,.bool x.f.S,.int .u8 x.f.D,.int .u8 x.f.V,.int .u32 x.f.A,v]
def itA (x:It) (v:Value):Array Value:=#[.int .i64 (x.no:Nat),.int .i64 x.f.K,.int .u32 x.f.I,.bool x.f.X,.bool x.f.R,.bool x.f.B,.bool x.f.E,.bool x.f.S,.int .u8 x.f.D,.int .u8 x.f.V,.int .u32 x.f.A,v]
def itV (x:It) (v:Value):Value := .agg (itA x v)
def DatP (w:World) (a:Option Addr) (c:Nat) (l:List Nat) (P:Nat->Prop):Prop:=Bs w a c l/\∀ b o t,a=some ⟨b,o,t⟩->0 < l.length->P b/\∀ i,w.frozen? ⟨b,o+i,none⟩=false
theorem Bs.keepKpZ {G:Nat->Prop} {w w':World} {a:Option Addr} {c:Nat} {l:List Nat} (h:Bs w a c l) (hk:Kp G w w') (hn:∀ b o t,a=some ⟨b,o,t⟩->0 < l.length->¬G b):Bs w' a c l:=by
 refine⟨h.hcap,h.hmax,h.hbyte,fun hl => ?_⟩
 obtain⟨b,o,ha,hc⟩:=h.hcells hl
 refine⟨b,o,ha,fun j hj => ?_⟩
 have h1:=hc j hj
 have hb:=World.block_lt_of_cell? _ _ h1
 have e:=hk.block b hb (hn b o none ha hl)
 rw[<- h1]
 simp only[World.cell?,e]
theorem DatP.keep {F P:Nat->Prop} {w w':World} {a:Option Addr} {c:Nat} {l:List Nat} (h:DatP w a c l P) (hk:Kp F w w') (hn:∀ k,P k->¬F k):DatP w' a c l P:=by
 refine⟨h.1.keepKpZ hk fun b o t e hl=>hn b (h.2 b o t e hl).1,fun b o t e hl => ?_⟩
 obtain⟨h1,h2⟩:=h.2 b o t e hl
 refine⟨h1,fun i => ?_⟩
 obtain⟨b',o',e',hc⟩:=h.1.hcells hl
 have e2:=e.symm.trans e'
 simp only[Option.some.injEq,Addr.mk.injEq] at e2
 obtain⟨rfl,rfl,_⟩:=e2
 have hlt:=World.block_lt_of_cell? _ _ (hc 0 hl)
 have eb:=hk.block b hlt (hn b h1)
 have:=h2 i
 simpa only[World.frozen?,eb] using this
theorem DatP.nb {P:Nat->Prop} {w w':World} {a:Option Addr} {c:Nat} {l:List Nat} (h:DatP w a c l P) (hb:Nb w w'):DatP w' a c l P:=h.keep (F:=fun _=>False) (Kp.ofNb hb) (by simp)
theorem DatP.up {P Q:Nat->Prop} {w:World} {a:Option Addr} {c:Nat} {l:List Nat} (h:DatP w a c l P) (hq:∀ k,P k->Q k):DatP w a c l Q:=⟨h.1,fun b o t e hl=>⟨hq b (h.2 b o t e hl).1,(h.2 b o t e hl).2⟩⟩
structure ItsAt (w:World) (a:Option Addr) (cap:Nat) (es:List It) (P:Nat->Prop):Prop where
 hcap:es.length<=cap
 hmax:cap<=maxLen
 hcells:0 < es.length->∃ b o,a=some ⟨b,o,none⟩/\P b/\∀ j,j < es.length->∃ a' c',(∀ i u,(itC (es.getD j dI) (.slice a' (es.getD j dI).l.length c'))[i]? = some u->w.cell? ⟨b,o+j*12+i,none⟩=some u)/\DatP w a' c' (es.getD j dI).l P
theorem ItsAt.nil (w:World) (P:Nat->Prop):ItsAt w none 0 [] P:=⟨Nat.le_refl _,by simp[maxLen],by simp⟩
theorem ItsAt.len {w:World} {a:Option Addr} {cap:Nat} {es:List It} {P:Nat->Prop} (h:ItsAt w a cap es P):es.length<=9223372036854775807:=by
 have h1:=h.hcap
 have h2:=h.hmax
 unfold maxLen at h2
 omega
theorem ItsAt.keep {F:Nat->Prop} {w w':World} {a:Option Addr} {cap:Nat} {es:List It} {P:Nat->Prop} (h:ItsAt w a cap es P) (hk:Kp F w w') (hn:∀ k,P k->¬F k):ItsAt w' a cap es P:=by
 refine⟨h.hcap,h.hmax,fun hl => ?_⟩
 obtain⟨b,o,ha,hp,hc⟩:=h.hcells hl
 refine⟨b,o,ha,hp,fun j hj => ?_⟩
 obtain⟨a',c',h1,h2⟩:=hc j hj
 exact⟨a',c',fun i u hu=>by
  have q:=h1 i u hu
  have hlt:=World.block_lt_of_cell? _ _ q
  have e:=hk.block b hlt (hn b hp)
  rw[<- q]
  simp only[World.cell?,e],h2.keep hk hn⟩
theorem ItsAt.nb {w w':World} {a:Option Addr} {cap:Nat} {es:List It} {P:Nat->Prop} (h:ItsAt w a cap es P) (hb:Nb w w'):ItsAt w' a cap es P:=h.keep (F:=fun _=>False) (Kp.ofNb hb) (by simp)
theorem ItsAt.up {w:World} {a:Option Addr} {cap:Nat} {es:List It} {P Q:Nat->Prop} (h:ItsAt w a cap es P) (hq:∀ k,P k->Q k):ItsAt w a cap es Q:=by
 refine⟨h.hcap,h.hmax,fun hl => ?_⟩
 obtain⟨b,o,ha,hp,hc⟩:=h.hcells hl
 refine⟨b,o,ha,hq b hp,fun j hj => ?_⟩
 obtain⟨a',c',h1,h2⟩:=hc j hj
 exact⟨a',c',h1,h2.up hq⟩
theorem ItsAt.at {w:World} {b o cap:Nat} {es:List It} {P:Nat->Prop} (h:ItsAt w (some ⟨b,o,none⟩) cap es P) {j:Nat} (hj:j < es.length) {n:Nat} {K I:Int} {X R B E S:Bool} {D V A:Int} {l:List Nat} (hf:es.getD j dI=⟨n,⟨K,I,X,R,B,E,S,D,V,A⟩,l⟩) :
    ∃ a' c',(w.cell? ⟨b,o+j*12,none⟩=some (.int .i64 (n:Nat))/\w.cell? ⟨b,o+j*12+1,none⟩=some (.int .i64 K)/\w.cell? ⟨b,o+j*12+2,none⟩=some (.int .u32 I)/\w.cell? ⟨b,o+j*12+3,none⟩=some (.bool X)/\w.cell? ⟨b,o+j*12+4,none⟩=some (.bool R)/\w.cell? ⟨b,o+j*12+5,none⟩=some (.bool B)/\w.cell? ⟨b,o+j*12+6,none⟩=some (.bool E)/\w.cell? ⟨b,o+j*12+7,none⟩=some (.bool S)/\w.cell? ⟨b,o+j*12+8,none⟩=some (.int .u8 D)/\w.cell? ⟨b,o+j*12+9,none⟩=some (.int .u8 V)/\w.cell? ⟨b,o+j*12+10,none⟩=some (.int .u32 A)/\w.cell? ⟨b,o+j*12+11,none⟩=some (.slice a' l.length c')) /\
     DatP w a' c' l P:=by
 obtain⟨b',o',e',_,hc⟩:=h.hcells (by omega)
 simp only[Option.some.injEq,Addr.mk.injEq,and_true] at e'
 obtain⟨rfl,rfl⟩:=e'
 obtain⟨a',c',h1,h2⟩:=hc j hj
 rw[hf] at h1 h2
 exact⟨a',c',⟨h1 0 _ rfl,h1 1 _ rfl,h1 2 _ rfl,h1 3 _ rfl,h1 4 _ rfl,h1 5 _ rfl,h1 6 _ rfl,h1 7 _ rfl,h1 8 _ rfl,h1 9 _ rfl,h1 10 _ rfl,h1 11 _ rfl⟩,h2⟩
theorem ItsAt.atW {w:World} {b o cap:Nat} {es:List It} {P:Nat->Prop} (h:ItsAt w (some ⟨b,o,none⟩) cap es P) {j:Nat} (hj:j < es.length) {n:Nat} {K I:Int} {X R B E S:Bool} {D V A:Int} {l:List Nat} (hf:es.getD j dI=⟨n,⟨K,I,X,R,B,E,S,D,V,A⟩,l⟩) :
    ∃ a' c',∀ w',Nb w w'->(w'.cell? ⟨b,o+j*12,none⟩=some (.int .i64 (n:Nat))/\w'.cell? ⟨b,o+j*12+1,none⟩=some (.int .i64 K)/\w'.cell? ⟨b,o+j*12+2,none⟩=some (.int .u32 I)/\w'.cell? ⟨b,o+j*12+3,none⟩=some (.bool X)/\w'.cell? ⟨b,o+j*12+4,none⟩=some (.bool R)/\w'.cell? ⟨b,o+j*12+5,none⟩=some (.bool B)/\w'.cell? ⟨b,o+j*12+6,none⟩=some (.bool E)/\w'.cell? ⟨b,o+j*12+7,none⟩=some (.bool S)/\w'.cell? ⟨b,o+j*12+8,none⟩=some (.int .u8 D)/\w'.cell? ⟨b,o+j*12+9,none⟩=some (.int .u8 V)/\w'.cell? ⟨b,o+j*12+10,none⟩=some (.int .u32 A)/\w'.cell? ⟨b,o+j*12+11,none⟩=some (.slice a' l.length c'))/\DatP w' a' c' l P:=by
 obtain⟨a',c',⟨x0,x1,x2,x3,x4,x5,x6,x7,x8,x9,x10,x11⟩,h2⟩:=h.at hj hf
 refine⟨a',c',fun w' hb=>⟨?_,h2.nb hb⟩⟩
 have tr:∀ {i:Nat} {u:Value},w.cell? ⟨b,i,none⟩=some u->w'.cell? ⟨b,i,none⟩=some u:=fun {i u} q=>by
  rw[hb.cell (p:=⟨b,i,none⟩) (World.block_lt_of_cell? _ _ q)]
  exact q
 exact⟨tr x0,tr x1,tr x2,tr x3,tr x4,tr x5,tr x6,tr x7,tr x8,tr x9,tr x10,tr x11⟩
abbrev QAt:=World->Value->Qu->(Nat->Prop)->Prop
def NewQ (At:QAt) (w:World) (room:Nat) (e:Ending) (w':World):Prop :=
 ∃ R F,e = .returned (.tuple #[.pointer (some ⟨R,0,none⟩),.int .i64 0])/\At w' (.pointer (some ⟨R,0,none⟩)) ⟨room,0,[]⟩ F/\(∀ k,F k->w.heap.size<=k)/\Nb w w'
def TurnQ (At:QAt) (w:World) (v:Value) (q:Qu) (u:Value) (F:Nat->Prop) (e:Ending) (w':World):Prop :=
 ∃ F',e = .returned u/\At w' v q F'/\Kp F w w'/\∀ k,F' k->F k\/w.heap.size<=k
def HeadQ (At:QAt) (w:World) (v:Value) (q q':Qu) (F:Nat->Prop) (e:Ending) (w':World):Prop :=
 ∃ F' a c P,e = .returned (.tuple #[itV q.head (.slice a q.head.l.length c),.int .i64 (q.headE:Nat)])/\DatP w' a c q.head.l P/\(∀ k,P k->k < w'.heap.size/\¬F' k/\(F k\/w.heap.size<=k))/\At w' v q' F'/\Kp F w w'/\∀ k,F' k->F k\/w.heap.size<=k
def AllQ (w:World) (q:Qu) (e:Ending) (w':World):Prop :=
 ∃ a c P,e = .returned (.slice a q.its.length c)/\ItsAt w' a c q.its P/\(∀ k,P k->w.heap.size<=k/\k < w'.heap.size)/\Nb w w'
end Go.Proofs.YtdedoeeekcfkpaaDoor
namespace Go.Proofs.YtdedoeeekcfkpaaDoor
set_option linter.unusedVariables false
set_option linter.unusedSimpArgs false
open Go.RowKit
abbrev dR:It × Value:=(dI,.slice none 0 0)
def cellsI (l:List (It × Value)):List Value:=l.flatMap fun p=>itC p.1 p.2
theorem itC_len (x:It) (u:Value):(itC x u).length=12:=rfl
theorem cellsI_len (l:List (It × Value)):(cellsI l).length=l.length*12:=by
 induction l with
 | nil=>rfl
 | cons p l ih =>
   show (itC p.1 p.2++cellsI l).length=_
   rw[List.length_append,itC_len,ih,List.length_cons]
   omega
theorem cellsI_app (l m:List (It × Value)):cellsI (l++m)=cellsI l++cellsI m:=by simp[cellsI]
theorem cellsI_get (l:List (It × Value)):∀ j,j < l.length->∀ i,i < 12->(cellsI l)[j*12+i]? = (itC (l.getD j dR).1 (l.getD j dR).2)[i]? := by
 induction l with
 | nil=>intro j h;simp at h
 | cons p l ih =>
   intro j h i hi
   have e:cellsI (p::l)=itC p.1 p.2++cellsI l:=rfl
   rw[e]
   cases j with
   | zero =>
     rw[List.getElem?_append_left (by rw[itC_len];omega),Nat.zero_mul,Nat.zero_add]
     rfl
   | succ j =>
     rw[List.getElem?_append_right (by rw[itC_len];omega),itC_len,show (j+1)*12+i - 12=j*12+i by omega]
     exact ih j (by simpa using h) i hi
theorem cellsI_one (l:List (It × Value)) (u:Value) (hu:u∈cellsI l) (h:∀ p∈l,p.2.oneCell'=true):u.oneCell'=true:=by
 obtain⟨p,hp,hm⟩:=List.mem_flatMap.1 hu
 obtain⟨⟨k,⟨K,I,X,R,B,E,S,D,V,A⟩,ll⟩,pv⟩:=p
 have:=h _ hp
 simp[itC] at hm
 rcases hm with rfl | rfl | rfl | rfl | rfl | rfl | rfl | rfl | rfl | rfl | rfl | rfl<;>first | rfl | exact this
theorem infoItR:(Tryd.prog.info? 43).map (fun i=>(i.zero,i.size,i.bytes))=some (some (.agg #[.int .i64 0,.int .i64 0,.int .u32 0,.bool false,.bool false,.bool false,.bool false,.bool false,.int .u8 0,.int .u8 0,.int .u32 0,.slice none 0 0]),12,56):=by kernel_rfl
def OwnIR (w:World) (v:Value) (l:List (It × Value)):Prop:=w.ownsRow 0 43 12 v l.length (cellsI l)
theorem OwnIR.nil (w:World):OwnIR w (.slice none 0 0) []:=World.ownsRow_nil _ _ _ _
theorem OwnIR.keep {F:Nat->Prop} {w w':World} {v:Value} {l:List (It × Value)} (h:OwnIR w v l) (hk:Kp F w w') (hn:∀ g,v.ownBlock=some g->¬F g):OwnIR w' v l:=by
 obtain⟨h1,h2⟩:=h
 refine⟨h1,?_⟩
 rcases h2 with h2 | ⟨g,cap,cur,rfl,hb,hg,r⟩
 ·exact .inl h2
 ·exact .inr ⟨g,cap,cur,rfl,hb,(hk.block g (Array.getElem?_eq_some_iff.1 hg).1 (hn g rfl)).trans hg,r⟩
theorem OwnIR.nb {w w':World} {v:Value} {l:List (It × Value)} (h:OwnIR w v l) (hb:Nb w w'):OwnIR w' v l:=h.keep (F:=fun _=>False) (Kp.ofNb hb) (by simp)
theorem OwnIR.lt {w:World} {v:Value} {l:List (It × Value)} (h:OwnIR w v l) {g:Nat} (hg:v.ownBlock=some g):g < w.heap.size:=by
 rcases h.2 with ⟨rfl,_⟩ | ⟨g',cap,cur,rfl,_,e,_⟩
 ·simp[Value.ownBlock] at hg
 ·simp only[Value.ownBlock,Option.some.injEq] at hg
  subst hg
  exact (Array.getElem?_eq_some_iff.1 e).1
theorem OwnIR.at {w:World} {v:Value} {l:List (It × Value)} (h:OwnIR w v l):∃ a c,v = .slice a l.length c/\l.length<=c/\c<=maxLen/\∀ j,j < l.length->∃ g,a=some ⟨g,0,none⟩/\v.ownBlock=some g/\g < w.heap.size/\∀ i u,(itC (l.getD j dR).1 (l.getD j dR).2)[i]? = some u->w.cell? ⟨g,j*12+i,none⟩=some u:=by
 rcases h.2 with ⟨rfl,h2⟩ | ⟨g,cap,cur,rfl,hb0,hg,hn,hc,hs,ht⟩
 ·exact⟨none,0,by rw[h2],by rw[h2];exact Nat.le_refl _,by simp[maxLen],fun j hj=>by omega⟩
 ·refine⟨_,cap,rfl,hn,hc,fun j hj=>⟨g,rfl,rfl,(Array.getElem?_eq_some_iff.1 hg).1,fun i u hu => ?_⟩⟩
  have hi:i < 12:=by
   have:=(List.getElem?_eq_some_iff.1 hu).1
   rw[itC_len] at this
   exact this
  have e:=cellsI_get l j hj i hi
  rw[hu,<- ht,List.getElem?_take_of_lt (by omega),Array.getElem?_toList] at e
  simp only[World.cell?,hg]
  exact e
theorem wpList_appIR (w:World) {ops:Array Oper} {rest:List Oper} {o:Oper} {a:Act} {Q:Exit->Act->World->Prop}
    (hg:o.guard=none) (s x:Operand) (hop:o.op=Op.call { callee:=Callee.builtin Builtin.append,args:=#[s,x],argTypes:=#[30,30] })
    (v:Value) (l:List (It × Value)) (hs:a.eval s=v) (hown:OwnIR w v l)
    (ao:Option Addr) (m c:Nat) (ms:List (It × Value)) (hm:m=ms.length) (hx:a.eval x = .slice ao m c) (hnone:ao=none->m=0/\c=0) (hc:∀ ad,ao=some ad->∀ j u,(cellsI ms)[j]? = some u->w.cell? (ad.add j)=some u) (h1:∀ p∈ms,p.2.oneCell'=true)
    (b1:l.length+ms.length<=1000000)
    (hK:∀ v' w',OwnIR w' v' (l++ms)->Kp (fun k=>v.ownBlock=some k) w w'->(∀ g,v'.ownBlock=some g->v.ownBlock=some g\/w.heap.size<=g)->wpList Tryd.prog ops Q rest (a.put o.dst v') w') :
    wpList Tryd.prog ops Q (o::rest) a w:=by
 obtain⟨i0,hi,hz0,hz1,hz2⟩:=info_parts infoItR
 subst hm
 refine wpList_app w hg s x 30 hop 43 i0 (.agg #[.int .i64 0,.int .i64 0,.int .u32 0,.bool false,.bool false,.bool false,.bool false,.bool false,.int .u8 0,.int .u8 0,.int .u32 0,.slice none 0 0]) 12 56 Tryd.underlying30 hi hz0 hz1 hz2 rfl (by decide) v l.length _ hs hown ao ms.length c (cellsI ms) hx (cellsI_len ms) hnone hc ?_ (by unfold maxLen;omega) (by omega) ?_
 ·exact fun u hu=>cellsI_one ms u hu h1
 ·intro v' w' ho hgr hbl
  exact hK v' w' (by simpa [OwnIR,cellsI_app] using ho) (Kp.grown hgr (fun k hk=>hk)) hbl
theorem wpList_appIR_1 (w:World) {ops:Array Oper} {rest:List Oper} {o:Oper} {a:Act} {Q:Exit->Act->World->Prop}
    (hg:o.guard=none) (s x:Operand) (hop:o.op=Op.call { callee:=Callee.builtin Builtin.append,args:=#[s,x],argTypes:=#[30,30] })
    (v:Value) (l:List (It × Value)) (hs:a.eval s=v) (hown:OwnIR w v l)
    (b:Nat) (e:It) (pa:Option Addr) (pn pc:Nat) (hx:a.eval x = .slice (some ⟨b,0,none⟩) 1 1) (hc:∀ j u,(itC e (.slice pa pn pc))[j]? = some u->w.cell? ⟨b,j,none⟩=some u)
    (b1:l.length+1<=1000000)
    (hK:∀ v' w',OwnIR w' v' (l++[(e,.slice pa pn pc)])->Kp (fun k=>v.ownBlock=some k) w w'->(∀ g,v'.ownBlock=some g->v.ownBlock=some g\/w.heap.size<=g)->wpList Tryd.prog ops Q rest (a.put o.dst v') w') :
    wpList Tryd.prog ops Q (o::rest) a w:=by
 refine wpList_appIR w hg s x hop v l hs hown (some ⟨b,0,none⟩) 1 1 [(e,.slice pa pn pc)] rfl hx (fun h=>by cases h) (fun ad had j u hu => ?_) (fun p hp => ?_) b1 hK
 ·obtain rfl:=Option.some.inj had
  rw[Addr.add_lit,Nat.zero_add]
  exact hc j u (by simpa [cellsI] using hu)
 ·rw[List.mem_singleton.1 hp]
  rfl
theorem infoItQ:(Tryd.prog.info? 40).map (fun i=>(i.zero,i.size,i.bytes))=some (some (.agg #[.int .i64 0,.int .i64 0,.int .u32 0,.bool false,.bool false,.bool false,.bool false,.bool false,.int .u8 0,.int .u8 0,.int .u32 0,.slice none 0 0]),12,56):=by kernel_rfl
def OwnIQ (w:World) (v:Value) (l:List (It × Value)):Prop:=w.ownsRow 0 40 12 v l.length (cellsI l)
theorem OwnIQ.nil (w:World):OwnIQ w (.slice none 0 0) []:=World.ownsRow_nil _ _ _ _
theorem OwnIQ.keep {F:Nat->Prop} {w w':World} {v:Value} {l:List (It × Value)} (h:OwnIQ w v l) (hk:Kp F w w') (hn:∀ g,v.ownBlock=some g->¬F g):OwnIQ w' v l:=by
 obtain⟨h1,h2⟩:=h
 refine⟨h1,?_⟩
 rcases h2 with h2 | ⟨g,cap,cur,rfl,hb,hg,r⟩
 ·exact .inl h2
 ·exact .inr ⟨g,cap,cur,rfl,hb,(hk.block g (Array.getElem?_eq_some_iff.1 hg).1 (hn g rfl)).trans hg,r⟩
theorem OwnIQ.nb {w w':World} {v:Value} {l:List (It × Value)} (h:OwnIQ w v l) (hb:Nb w w'):OwnIQ w' v l:=h.keep (F:=fun _=>False) (Kp.ofNb hb) (by simp)
theorem OwnIQ.lt {w:World} {v:Value} {l:List (It × Value)} (h:OwnIQ w v l) {g:Nat} (hg:v.ownBlock=some g):g < w.heap.size:=by
 rcases h.2 with ⟨rfl,_⟩ | ⟨g',cap,cur,rfl,_,e,_⟩
 ·simp[Value.ownBlock] at hg
 ·simp only[Value.ownBlock,Option.some.injEq] at hg
  subst hg
  exact (Array.getElem?_eq_some_iff.1 e).1
theorem OwnIQ.at {w:World} {v:Value} {l:List (It × Value)} (h:OwnIQ w v l):∃ a c,v = .slice a l.length c/\l.length<=c/\c<=maxLen/\∀ j,j < l.length->∃ g,a=some ⟨g,0,none⟩/\v.ownBlock=some g/\g < w.heap.size/\∀ i u,(itC (l.getD j dR).1 (l.getD j dR).2)[i]? = some u->w.cell? ⟨g,j*12+i,none⟩=some u:=by
 rcases h.2 with ⟨rfl,h2⟩ | ⟨g,cap,cur,rfl,hb0,hg,hn,hc,hs,ht⟩
 ·exact⟨none,0,by rw[h2],by rw[h2];exact Nat.le_refl _,by simp[maxLen],fun j hj=>by omega⟩
 ·refine⟨_,cap,rfl,hn,hc,fun j hj=>⟨g,rfl,rfl,(Array.getElem?_eq_some_iff.1 hg).1,fun i u hu => ?_⟩⟩
  have hi:i < 12:=by
   have:=(List.getElem?_eq_some_iff.1 hu).1
   rw[itC_len] at this
   exact this
  have e:=cellsI_get l j hj i hi
  rw[hu,<- ht,List.getElem?_take_of_lt (by omega),Array.getElem?_toList] at e
  simp only[World.cell?,hg]
  exact e
theorem wpList_appIQ (w:World) {ops:Array Oper} {rest:List Oper} {o:Oper} {a:Act} {Q:Exit->Act->World->Prop}
    (hg:o.guard=none) (s x:Operand) (hop:o.op=Op.call { callee:=Callee.builtin Builtin.append,args:=#[s,x],argTypes:=#[53,53] })
    (v:Value) (l:List (It × Value)) (hs:a.eval s=v) (hown:OwnIQ w v l)
    (ao:Option Addr) (m c:Nat) (ms:List (It × Value)) (hm:m=ms.length) (hx:a.eval x = .slice ao m c) (hnone:ao=none->m=0/\c=0) (hc:∀ ad,ao=some ad->∀ j u,(cellsI ms)[j]? = some u->w.cell? (ad.add j)=some u) (h1:∀ p∈ms,p.2.oneCell'=true)
    (b1:l.length+ms.length<=1000000)
    (hK:∀ v' w',OwnIQ w' v' (l++ms)->Kp (fun k=>v.ownBlock=some k) w w'->(∀ g,v'.ownBlock=some g->v.ownBlock=some g\/w.heap.size<=g)->wpList Tryd.prog ops Q rest (a.put o.dst v') w') :
    wpList Tryd.prog ops Q (o::rest) a w:=by
 obtain⟨i0,hi,hz0,hz1,hz2⟩:=info_parts infoItQ
 subst hm
 refine wpList_app w hg s x 53 hop 40 i0 (.agg #[.int .i64 0,.int .i64 0,.int .u32 0,.bool false,.bool false,.bool false,.bool false,.bool false,.int .u8 0,.int .u8 0,.int .u32 0,.slice none 0 0]) 12 56 Tryd.underlying53 hi hz0 hz1 hz2 rfl (by decide) v l.length _ hs hown ao ms.length c (cellsI ms) hx (cellsI_len ms) hnone hc ?_ (by unfold maxLen;omega) (by omega) ?_
 ·exact fun u hu=>cellsI_one ms u hu h1
 ·intro v' w' ho hgr hbl
  exact hK v' w' (by simpa [OwnIQ,cellsI_app] using ho) (Kp.grown hgr (fun k hk=>hk)) hbl
theorem wpList_appIQ_1 (w:World) {ops:Array Oper} {rest:List Oper} {o:Oper} {a:Act} {Q:Exit->Act->World->Prop}
    (hg:o.guard=none) (s x:Operand) (hop:o.op=Op.call { callee:=Callee.builtin Builtin.append,args:=#[s,x],argTypes:=#[53,53] })
    (v:Value) (l:List (It × Value)) (hs:a.eval s=v) (hown:OwnIQ w v l)
    (b:Nat) (e:It) (pa:Option Addr) (pn pc:Nat) (hx:a.eval x = .slice (some ⟨b,0,none⟩) 1 1) (hc:∀ j u,(itC e (.slice pa pn pc))[j]? = some u->w.cell? ⟨b,j,none⟩=some u)
    (b1:l.length+1<=1000000)
    (hK:∀ v' w',OwnIQ w' v' (l++[(e,.slice pa pn pc)])->Kp (fun k=>v.ownBlock=some k) w w'->(∀ g,v'.ownBlock=some g->v.ownBlock=some g\/w.heap.size<=g)->wpList Tryd.prog ops Q rest (a.put o.dst v') w') :
    wpList Tryd.prog ops Q (o::rest) a w:=by
 refine wpList_appIQ w hg s x hop v l hs hown (some ⟨b,0,none⟩) 1 1 [(e,.slice pa pn pc)] rfl hx (fun h=>by cases h) (fun ad had j u hu => ?_) (fun p hp => ?_) b1 hK
 ·obtain rfl:=Option.some.inj had
  rw[Addr.add_lit,Nat.zero_add]
  exact hc j u (by simpa [cellsI] using hu)
 ·rw[List.mem_singleton.1 hp]
  rfl
def RowI (w:World) (l:List (It × Value)) (X:Nat->Prop):Prop:=∀ p∈l,∃ a c,p.2 = .slice a p.1.l.length c/\DatP w a c p.1.l X
theorem RowI.nil (w:World) (X:Nat->Prop):RowI w [] X:=fun p hp=>by simp at hp
theorem RowI.keep {F X:Nat->Prop} {w w':World} {l:List (It × Value)} (h:RowI w l X) (hk:Kp F w w') (hn:∀ k,X k->¬F k):RowI w' l X:=fun p hp=>by
 obtain⟨a,c,h1,h2⟩:=h p hp
 exact⟨a,c,h1,h2.keep hk hn⟩
theorem RowI.nb {X:Nat->Prop} {w w':World} {l:List (It × Value)} (h:RowI w l X) (hb:Nb w w'):RowI w' l X:=h.keep (F:=fun _=>False) (Kp.ofNb hb) (by simp)
theorem RowI.up {X Y:Nat->Prop} {w:World} {l:List (It × Value)} (h:RowI w l X) (hxy:∀ k,X k->Y k):RowI w l Y:=fun p hp=>by
 obtain⟨a,c,h1,h2⟩:=h p hp
 exact⟨a,c,h1,h2.up hxy⟩
theorem RowI.app {X:Nat->Prop} {w:World} {l m:List (It × Value)} (h:RowI w l X) (g:RowI w m X):RowI w (l++m) X:=fun p hp=>by
 rcases List.mem_append.1 hp with hp | hp
 ·exact h p hp
 ·exact g p hp
theorem RowI.one {X:Nat->Prop} {w:World} {e:It} {a:Option Addr} {c:Nat} (h:DatP w a c e.l X):RowI w [(e,.slice a e.l.length c)] X:=fun p hp=>by
 rw[List.mem_singleton.1 hp]
 exact⟨a,c,rfl,h⟩
theorem OwnIR.its {w:World} {v:Value} {l:List (It × Value)} {X:Nat->Prop} (h:OwnIR w v l) (hr:RowI w l X) (hX:∀ g,v.ownBlock=some g->X g):∃ a c,v = .slice a l.length c/\ItsAt w a c (l.map Prod.fst) X:=by
 obtain⟨a,c,rfl,h1,h2,hat⟩:=h.at
 refine⟨a,c,rfl,⟨by rw[List.length_map];exact h1,h2,fun h0 => ?_⟩⟩
 rw[List.length_map] at h0 ⊢
 obtain⟨g,rfl,hob,hlt,_⟩:=hat 0 h0
 refine⟨g,0,rfl,hX g hob,fun j hj => ?_⟩
 obtain⟨g',e',_,_,hc⟩:=hat j hj
 simp only[Option.some.injEq,Addr.mk.injEq,and_true] at e'
 subst e'
 have em:(l.map Prod.fst).getD j dI=(l.getD j dR).1:=by simp[List.getD,hj]
 obtain⟨a',c',e2,hd⟩:=hr (l.getD j dR) (by rw[show l.getD j dR=l[j] by simp[List.getD,hj]];exact List.getElem_mem hj)
 rw[em]
 refine⟨a',c',fun i u hu => ?_,hd⟩
 rw[Nat.zero_add]
 exact hc i u (by rw[e2];exact hu)
theorem OwnIQ.its {w:World} {v:Value} {l:List (It × Value)} {X:Nat->Prop} (h:OwnIQ w v l) (hr:RowI w l X) (hX:∀ g,v.ownBlock=some g->X g):∃ a c,v = .slice a l.length c/\ItsAt w a c (l.map Prod.fst) X:=by
 obtain⟨a,c,rfl,h1,h2,hat⟩:=h.at
 refine⟨a,c,rfl,⟨by rw[List.length_map];exact h1,h2,fun h0 => ?_⟩⟩
 rw[List.length_map] at h0 ⊢
 obtain⟨g,rfl,hob,hlt,_⟩:=hat 0 h0
 refine⟨g,0,rfl,hX g hob,fun j hj => ?_⟩
 obtain⟨g',e',_,_,hc⟩:=hat j hj
 simp only[Option.some.injEq,Addr.mk.injEq,and_true] at e'
 subst e'
 have em:(l.map Prod.fst).getD j dI=(l.getD j dR).1:=by simp[List.getD,hj]
 obtain⟨a',c',e2,hd⟩:=hr (l.getD j dR) (by rw[show l.getD j dR=l[j] by simp[List.getD,hj]];exact List.getElem_mem hj)
 rw[em]
 refine⟨a',c',fun i u hu => ?_,hd⟩
 rw[Nat.zero_add]
 exact hc i u (by rw[e2];exact hu)
end Go.Proofs.YtdedoeeekcfkpaaDoor
namespace Go.Proofs.YtdedoeeekcfkpaaDoor
set_option linter.unusedVariables false
set_option linter.unusedSimpArgs false
open Go.RowKit
theorem Blk.sets {t:TypeId} {g:Nat}:∀ (vs:List Value) (o:Nat) (w:World) (cs:Array Value),Blk w g cs t->∃ cs',Blk (w.setCells g o vs) g cs' t/\cs'.size=cs.size/\(∀ i,i < vs.length->o+i < cs.size->cs'[o+i]? = vs[i]?)/\∀ k,(k < o\/o+vs.length<=k)->cs'[k]? = cs[k]? := by
 intro vs
 induction vs with
 | nil=>intro o w cs h;exact⟨cs,h,rfl,fun i hi=>by simp at hi,fun k _=>rfl⟩
 | cons v vs ih =>
   intro o w cs h
   obtain⟨cs',h1,h2,h3,h4⟩:=ih (o+1) _ _ (h.set o v)
   rw[Array.size_setIfInBounds] at h2 h3
   refine⟨cs',h1,h2,fun i hi ho => ?_,fun k hk => ?_⟩
   ·cases i with
    | zero =>
      rw[h4 (o+0) (by omega),Nat.add_zero,Array.getElem?_setIfInBounds_self_of_lt (by omega)]
      rfl
    | succ i =>
      have:=h3 i (by simpa using hi) (by omega)
      rw[show o+(i+1)=o+1+i by omega,this]
      rfl
   ·rw[List.length_cons] at hk
    rw[h4 k (by omega),Array.getElem?_setIfInBounds_ne (by omega)]
theorem Kp.sets {F:Nat->Prop} {g:Nat} (hg:F g):∀ (vs:List Value) (o:Nat) (w:World),Kp F w (w.setCells g o vs):=by
 intro vs
 induction vs with
 | nil=>intro o w;exact Kp.ofNb Nb.rfl
 | cons v vs ih=>intro o w;exact (Kp.set hg).tr (ih (o+1) _) (fun k hk => .inl hk)
def RwI (T:TypeId) (w:World) (g:Nat) (l:List (It × Value)):Prop:=∃ cs,Blk w g cs T/\l.length*12<=cs.size/\∀ j,j < l.length->∀ i,i < 12->cs[j*12+i]? = (itC (l.getD j dR).1 (l.getD j dR).2)[i]?
theorem RwI.keep {F:Nat->Prop} {T:TypeId} {w w':World} {g:Nat} {l:List (It × Value)} (h:RwI T w g l) (hk:Kp F w w') (hn:¬F g):RwI T w' g l:=by
 obtain⟨cs,hb,h1,h2⟩:=h
 exact⟨cs,hb.keep hk hn,h1,h2⟩
theorem RwI.nb {T:TypeId} {w w':World} {g:Nat} {l:List (It × Value)} (h:RwI T w g l) (hb:Nb w w'):RwI T w' g l:=h.keep (F:=fun _=>False) (Kp.ofNb hb) (by simp)
theorem RwI.lt {T:TypeId} {w:World} {g:Nat} {l:List (It × Value)} (h:RwI T w g l):g < w.heap.size:=by
 obtain⟨cs,hb,_⟩:=h
 exact hb.lt
theorem RwI.cell {T:TypeId} {w:World} {g:Nat} {l:List (It × Value)} (h:RwI T w g l) {j:Nat} (hj:j < l.length) {i:Nat} {u:Value} (hu:(itC (l.getD j dR).1 (l.getD j dR).2)[i]? = some u):w.cell? ⟨g,j*12+i,none⟩=some u:=by
 obtain⟨cs,hb,_,hc⟩:=h
 have hi:i < 12:=by
  have:=(List.getElem?_eq_some_iff.1 hu).1
  rw[itC_len] at this
  exact this
 exact (hb.cell _).trans ((hc j hj i hi).trans hu)
theorem RwI.there {T:TypeId} {w:World} {g:Nat} {l:List (It × Value)} (h:RwI T w g l) {j:Nat} (hj:j < l.length):w.there g (j*12) 12:=fun i hi=>by
 obtain⟨cs,hb,_,hc⟩:=h
 refine⟨?_,hb.frozen _⟩
 have e:w.cell? ⟨g,j*12+i,none⟩=cs[j*12+i]? := hb.cell _
 have hl:i < (itC (l.getD j dR).1 (l.getD j dR).2).length:=by rw[itC_len];exact hi
 rw[e,hc j hj i hi,List.getElem?_eq_getElem hl]
 rfl
theorem RwI.put {T:TypeId} {w:World} {g:Nat} {l:List (It × Value)} (h:RwI T w g l) {j:Nat} (hj:j < l.length) (e:It) (u:Value):RwI T (w.setCells g (j*12) (itC e u)) g (l.set j (e,u)):=by
 obtain⟨cs,hb,h1,h2⟩:=h
 obtain⟨cs',b1,b2,b3,b4⟩:=Blk.sets (itC e u) (j*12) w cs hb
 rw[itC_len] at b3 b4
 refine⟨cs',b1,by rw[List.length_set,b2];exact h1,fun k hk i hi => ?_⟩
 rw[List.length_set] at hk
 by_cases hjk:j=k
 ·subst hjk
  rw[b3 i hi (by omega),show (l.set j (e,u)).getD j dR=(e,u) by simp[List.getD,hj]]
 ·rw[b4 (k*12+i) (by omega),h2 k hk i hi,show (l.set j (e,u)).getD k dR=l.getD k dR by simp[List.getD,List.getElem?_set_ne hjk]]
theorem RwI.less {T:TypeId} {w:World} {g:Nat} {l:List (It × Value)} (h:RwI T w g l) (n:Nat):RwI T w g (l.take n):=by
 obtain⟨cs,hb,h1,h2⟩:=h
 refine⟨cs,hb,by rw[List.length_take];omega,fun j hj i hi => ?_⟩
 rw[List.length_take] at hj
 rw[show (l.take n).getD j dR=l.getD j dR by simp[List.getD,show j < n by omega]]
 exact h2 j (by omega) i hi
theorem OwnIR.rw {w:World} {v:Value} {l:List (It × Value)} (h:OwnIR w v l) (h0:0 < l.length):∃ g c,v = .slice (some ⟨g,0,none⟩) l.length c/\v.ownBlock=some g/\RwI 43 w g l/\l.length<=c/\c<=maxLen:=by
 rcases h.2 with ⟨rfl,h2⟩ | ⟨g,cap,cur,rfl,hb0,hg,hn,hc,hs,ht⟩
 ·omega
 ·refine⟨g,cap,rfl,rfl,⟨cur,hg,by rw[hs];exact Nat.mul_le_mul_right _ hn,fun j hj i hi => ?_⟩,hn,hc⟩
  rw[<- cellsI_get l j hj i hi,<- ht,List.getElem?_take_of_lt (by omega),Array.getElem?_toList]
theorem OwnIQ.rw {w:World} {v:Value} {l:List (It × Value)} (h:OwnIQ w v l) (h0:0 < l.length):∃ g c,v = .slice (some ⟨g,0,none⟩) l.length c/\v.ownBlock=some g/\RwI 40 w g l/\l.length<=c/\c<=maxLen:=by
 rcases h.2 with ⟨rfl,h2⟩ | ⟨g,cap,cur,rfl,hb0,hg,hn,hc,hs,ht⟩
 ·omega
 ·refine⟨g,cap,rfl,rfl,⟨cur,hg,by rw[hs];exact Nat.mul_le_mul_right _ hn,fun j hj i hi => ?_⟩,hn,hc⟩
  rw[<- cellsI_get l j hj i hi,<- ht,List.getElem?_take_of_lt (by omega),Array.getElem?_toList]
theorem RwI.its {T:TypeId} {w:World} {g c:Nat} {l:List (It × Value)} {X:Nat->Prop} (h:RwI T w g l) (hr:RowI w l X) (hX:X g) (h1:l.length<=c) (h2:c<=maxLen):ItsAt w (some ⟨g,0,none⟩) c (l.map Prod.fst) X:=by
 refine⟨by rw[List.length_map];exact h1,h2,fun h0=>⟨g,0,rfl,hX,fun j hj => ?_⟩⟩
 rw[List.length_map] at hj
 have em:(l.map Prod.fst).getD j dI=(l.getD j dR).1:=by simp[List.getD,hj]
 obtain⟨a',c',e2,hd⟩:=hr (l.getD j dR) (by rw[show l.getD j dR=l[j] by simp[List.getD,hj]];exact List.getElem_mem hj)
 rw[em]
 refine⟨a',c',fun i u hu => ?_,hd⟩
 rw[Nat.zero_add]
 exact h.cell hj (by rw[e2];exact hu)
end Go.Proofs.YtdedoeeekcfkpaaDoor
namespace Go.Proofs.YtdedoeeekcfkpaaDoor
set_option linter.unusedVariables false
set_option linter.unusedSimpArgs false
open Go.RowKit
theorem step_appIR (w:World) {ops:Array Oper} {o:Oper} {a:Act} {K:Act->World->Prop} {Q:Exit->Act->World->Prop} {E:Prop}
    (hg:o.guard=none) (s x:Operand) (hop:o.op=Op.call { callee:=Callee.builtin Builtin.append,args:=#[s,x],argTypes:=#[30,30] })
    (v:Value) (l:List (It × Value)) (hs:a.eval s=v) (hown:OwnIR w v l)
    (ao:Option Addr) (m c:Nat) (ms:List (It × Value)) (hm:m=ms.length) (hx:a.eval x = .slice ao m c) (hnone:ao=none->m=0/\c=0) (hc:∀ ad,ao=some ad->∀ j u,(cellsI ms)[j]? = some u->w.cell? (ad.add j)=some u) (h1:∀ p∈ms,p.2.oneCell'=true)
    (b1:l.length+ms.length<=1000000)
    (hK:∀ v' w',OwnIR w' v' (l++ms)->Kp (fun k=>v.ownBlock=some k) w w'->(∀ g,v'.ownBlock=some g->v.ownBlock=some g\/w.heap.size<=g)->K (a.put o.dst v') w') :
    if Region.wanted o (yielded ops a.tmps)=true then Oper.wp Tryd.prog o a w K Q else E:=by
 obtain⟨i0,hi,hz0,hz1,hz2⟩:=info_parts infoItR
 subst hm
 have hw:Region.wanted o (yielded ops a.tmps)=true:=by simp[Region.wanted,hg]
 have hlen:=cellsI_len ms
 have h1c:=fun u hu=>cellsI_one ms u hu h1
 have hall:∀ v' w',w'.ownsRow 0 43 12 v' (l.length+ms.length) (cellsI l++cellsI ms)->w.grownBy w' v.ownBlock->(∀ g,v'.ownBlock=some g->v.ownBlock=some g\/w.heap.size<=g)->K (a.put o.dst v') w':=fun v' w' ho hgr hbl =>
  hK v' w' (by simpa [OwnIR,cellsI_app] using ho) (Kp.grown hgr (fun k hk=>hk)) hbl
 have hnew:∀ v' w',w'.ownsRow w.heap.size 43 12 v' (l.length+ms.length) (cellsI l++cellsI ms)->w.grownBy w' none->K (a.put o.dst v') w':=fun v' w' ho hgr =>
  hall v' w' (ownsRow_weak ho) ⟨hgr.os,hgr.tape,hgr.output,hgr.size,fun k hk _=>hgr.block k hk (by simp)⟩ (fun g hg => .inr (ho.lt g hg).1)
 rcases hown.2 with ⟨rfl,h2⟩ | ⟨g,cap,cur,rfl,hbg,hgg,hnc,hcm,hcs,htake⟩
 ·have hl:l=[]:=List.length_eq_zero_iff.1 h2
  subst hl
  rw[if_pos hw]
  cases ao with
  | none =>
    obtain⟨hm0,rfl⟩:=hnone rfl
    have hms:ms=[]:=List.length_eq_zero_iff.1 hm0
    subst hms
    have hrun:=run_append_owned_none (P:=Tryd.prog) w 0 30 o.type 43 i0 12 Tryd.underlying30 hi _ 0 _ hown
    unfold Oper.wp
    simp only[List.length_nil] at hx
    simp[execOp,hop,resolve,invoke,builtin,hs,hx,hrun,Result.andThen]
    exact hall _ w hown (World.grownBy.refl _ _) (fun g hg => .inl hg)
  | some ad =>
    obtain⟨v',w',hrun,r1,r2,_⟩:=run_append_own (P:=Tryd.prog) w w.heap.size 30 o.type 43 i0 _ 12 56 Tryd.underlying30 hi hz0 hz1 hz2 rfl (by decide) (.slice none 0 0) 0 [] (World.ownsRow_nil w _ _ _) ad ms.length c (cellsI ms) hlen (hc ad rfl) h1c (by unfold maxLen;simp only[List.length_nil] at b1;omega) (by simp only[List.length_nil] at b1;omega) (Nat.le_refl _)
    unfold Oper.wp
    simp[execOp,hop,resolve,invoke,builtin,hs,hx,hrun,Result.andThen]
    exact hnew v' w' (by simpa [show cellsI []=[] from rfl] using r1) r2
 ·by_cases hroom:l.length+ms.length<=cap
  ·rw[if_pos hw]
   cases ao with
   | none =>
     obtain⟨hm0,rfl⟩:=hnone rfl
     have hms:ms=[]:=List.length_eq_zero_iff.1 hm0
     subst hms
     have hrun:=run_append_owned_none (P:=Tryd.prog) w 0 30 o.type 43 i0 12 Tryd.underlying30 hi _ l.length _ hown
     unfold Oper.wp
     simp only[List.length_nil] at hx
     simp[execOp,hop,resolve,invoke,builtin,hs,hx,hrun,Result.andThen]
     have h:w.ownsRow 0 43 12 (.slice (some ⟨g,0,none⟩) l.length cap) l.length (cellsI l):=hown
     exact hall _ w (by simpa [show cellsI []=[] from rfl] using h) (World.grownBy.refl _ _) (fun g hg => .inl hg)
   | some ad =>
     obtain⟨w',hrun,r1,r2⟩:=run_append_fits (P:=Tryd.prog) w 0 30 o.type 43 i0 12 Tryd.underlying30 hi hz1 g l.length cap _ hown ad ms.length c _ hlen (hc ad rfl) h1c hroom
     unfold Oper.wp
     simp[execOp,hop,resolve,invoke,builtin,hs,hx,hrun,Result.andThen]
     exact hall _ _ r1 r2 (fun k hk => .inl (by simpa [Value.ownBlock] using hk))
  ·cases ao with
   | none =>
     have:=(hnone rfl).1
     omega
   | some ad =>
     exact step_append_grows hg s x 30 hop 43 i0 _ 12 56 Tryd.underlying30 hi hz0 hz1 hz2 rfl (by decide) (some ⟨g,0,none⟩) l.length cap _ hs (by simp) hown.1 (fun b hb=>by cases hb;exact hown.cells (g:=g) rfl) ad ms.length c _ hx hlen (hc ad rfl) h1c (by omega) (by unfold maxLen;omega) (by omega) hnew
theorem OwnIR.lit0 (w:World):OwnIR (w.alloc (.cells #[] 43)) (.slice (some ⟨w.heap.size,0,none⟩) 0 0) [] :=
 ⟨by simp[cellsI],.inr ⟨w.heap.size,0,#[],rfl,Nat.zero_le _,heap_alloc_new w _,Nat.le_refl _,by simp[maxLen],by simp,by simp[cellsI]⟩⟩
theorem step_appIQ (w:World) {ops:Array Oper} {o:Oper} {a:Act} {K:Act->World->Prop} {Q:Exit->Act->World->Prop} {E:Prop}
    (hg:o.guard=none) (s x:Operand) (hop:o.op=Op.call { callee:=Callee.builtin Builtin.append,args:=#[s,x],argTypes:=#[53,53] })
    (v:Value) (l:List (It × Value)) (hs:a.eval s=v) (hown:OwnIQ w v l)
    (ao:Option Addr) (m c:Nat) (ms:List (It × Value)) (hm:m=ms.length) (hx:a.eval x = .slice ao m c) (hnone:ao=none->m=0/\c=0) (hc:∀ ad,ao=some ad->∀ j u,(cellsI ms)[j]? = some u->w.cell? (ad.add j)=some u) (h1:∀ p∈ms,p.2.oneCell'=true)
    (b1:l.length+ms.length<=1000000)
    (hK:∀ v' w',OwnIQ w' v' (l++ms)->Kp (fun k=>v.ownBlock=some k) w w'->(∀ g,v'.ownBlock=some g->v.ownBlock=some g\/w.heap.size<=g)->K (a.put o.dst v') w') :
    if Region.wanted o (yielded ops a.tmps)=true then Oper.wp Tryd.prog o a w K Q else E:=by
 obtain⟨i0,hi,hz0,hz1,hz2⟩:=info_parts infoItQ
 subst hm
 have hw:Region.wanted o (yielded ops a.tmps)=true:=by simp[Region.wanted,hg]
 have hlen:=cellsI_len ms
 have h1c:=fun u hu=>cellsI_one ms u hu h1
 have hall:∀ v' w',w'.ownsRow 0 40 12 v' (l.length+ms.length) (cellsI l++cellsI ms)->w.grownBy w' v.ownBlock->(∀ g,v'.ownBlock=some g->v.ownBlock=some g\/w.heap.size<=g)->K (a.put o.dst v') w':=fun v' w' ho hgr hbl =>
  hK v' w' (by simpa [OwnIQ,cellsI_app] using ho) (Kp.grown hgr (fun k hk=>hk)) hbl
 have hnew:∀ v' w',w'.ownsRow w.heap.size 40 12 v' (l.length+ms.length) (cellsI l++cellsI ms)->w.grownBy w' none->K (a.put o.dst v') w':=fun v' w' ho hgr =>
  hall v' w' (ownsRow_weak ho) ⟨hgr.os,hgr.tape,hgr.output,hgr.size,fun k hk _=>hgr.block k hk (by simp)⟩ (fun g hg => .inr (ho.lt g hg).1)
 rcases hown.2 with ⟨rfl,h2⟩ | ⟨g,cap,cur,rfl,hbg,hgg,hnc,hcm,hcs,htake⟩
 ·have hl:l=[]:=List.length_eq_zero_iff.1 h2
  subst hl
  rw[if_pos hw]
  cases ao with
  | none =>
    obtain⟨hm0,rfl⟩:=hnone rfl
    have hms:ms=[]:=List.length_eq_zero_iff.1 hm0
    subst hms
    have hrun:=run_append_owned_none (P:=Tryd.prog) w 0 53 o.type 40 i0 12 Tryd.underlying53 hi _ 0 _ hown
    unfold Oper.wp
    simp only[List.length_nil] at hx
    simp[execOp,hop,resolve,invoke,builtin,hs,hx,hrun,Result.andThen]
    exact hall _ w hown (World.grownBy.refl _ _) (fun g hg => .inl hg)
  | some ad =>
    obtain⟨v',w',hrun,r1,r2,_⟩:=run_append_own (P:=Tryd.prog) w w.heap.size 53 o.type 40 i0 _ 12 56 Tryd.underlying53 hi hz0 hz1 hz2 rfl (by decide) (.slice none 0 0) 0 [] (World.ownsRow_nil w _ _ _) ad ms.length c (cellsI ms) hlen (hc ad rfl) h1c (by unfold maxLen;simp only[List.length_nil] at b1;omega) (by simp only[List.length_nil] at b1;omega) (Nat.le_refl _)
    unfold Oper.wp
    simp[execOp,hop,resolve,invoke,builtin,hs,hx,hrun,Result.andThen]
    exact hnew v' w' (by simpa [show cellsI []=[] from rfl] using r1) r2
 ·by_cases hroom:l.length+ms.length<=cap
  ·rw[if_pos hw]
   cases ao with
   | none =>
     obtain⟨hm0,rfl⟩:=hnone rfl
     have hms:ms=[]:=List.length_eq_zero_iff.1 hm0
     subst hms
     have hrun:=run_append_owned_none (P:=Tryd.prog) w 0 53 o.type 40 i0 12 Tryd.underlying53 hi _ l.length _ hown
     unfold Oper.wp
     simp only[List.length_nil] at hx
     simp[execOp,hop,resolve,invoke,builtin,hs,hx,hrun,Result.andThen]
     have h:w.ownsRow 0 40 12 (.slice (some ⟨g,0,none⟩) l.length cap) l.length (cellsI l):=hown
     exact hall _ w (by simpa [show cellsI []=[] from rfl] using h) (World.grownBy.refl _ _) (fun g hg => .inl hg)
   | some ad =>
     obtain⟨w',hrun,r1,r2⟩:=run_append_fits (P:=Tryd.prog) w 0 53 o.type 40 i0 12 Tryd.underlying53 hi hz1 g l.length cap _ hown ad ms.length c _ hlen (hc ad rfl) h1c hroom
     unfold Oper.wp
     simp[execOp,hop,resolve,invoke,builtin,hs,hx,hrun,Result.andThen]
     exact hall _ _ r1 r2 (fun k hk => .inl (by simpa [Value.ownBlock] using hk))
  ·cases ao with
   | none =>
     have:=(hnone rfl).1
     omega
   | some ad =>
     exact step_append_grows hg s x 53 hop 40 i0 _ 12 56 Tryd.underlying53 hi hz0 hz1 hz2 rfl (by decide) (some ⟨g,0,none⟩) l.length cap _ hs (by simp) hown.1 (fun b hb=>by cases hb;exact hown.cells (g:=g) rfl) ad ms.length c _ hx hlen (hc ad rfl) h1c (by omega) (by unfold maxLen;omega) (by omega) hnew
theorem OwnIQ.lit0 (w:World):OwnIQ (w.alloc (.cells #[] 40)) (.slice (some ⟨w.heap.size,0,none⟩) 0 0) [] :=
 ⟨by simp[cellsI],.inr ⟨w.heap.size,0,#[],rfl,Nat.zero_le _,heap_alloc_new w _,Nat.le_refl _,by simp[maxLen],by simp,by simp[cellsI]⟩⟩
end Go.Proofs.YtdedoeeekcfkpaaDoor
