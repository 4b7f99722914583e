
/- What a slice of layer 14's acts is that came in. No conditions. -/
import Derived.Test.YtdedoeeekcfkpaaDoorGor
set_option maxHeartbeats 1600000
namespace Go.Proofs.YtdedoeeekcfkpaaDoor
set_option linter.unusedVariables false
set_option linter.unusedSimpArgs false
open Go.RowKit Go.ChangeShapes Go.WideShapes
structure ActQ where
 k:Int
 n:Int
 f:Hd
 l:List Nat
abbrev dQ:ActQ:=⟨0,0,dF.1,dF.2⟩
def ActQ.cs (x:ActQ) (v:Value):List Value := .int .i64 x.k :: .int .i64 x.n::(x.f.cs v).toList
structure ActQ.Wd (x:ActQ):Prop where
 f:WdX x.f
 K:(Lit.int .i64 x.f.K).wf=true
 k:(Lit.int .i64 x.k).wf=true
 n:(Lit.int .i64 x.n).wf=true
theorem list13 {α:Type} {cs:List α} (h:cs.length=13):∃ c0 c1 c2 c3 c4 c5 c6 c7 c8 c9 c10 c11 c12,cs=[c0,c1,c2,c3,c4,c5,c6,c7,c8,c9,c10,c11,c12]:=by
 match cs,h with
 | [c0,c1,c2,c3,c4,c5,c6,c7,c8,c9,c10,c11,c12],_=>exact⟨c0,c1,c2,c3,c4,c5,c6,c7,c8,c9,c10,c11,c12,rfl⟩
theorem actq_open {H:Type} {enc:TypeId × Value->H} {w:World} {fuel:Nat} {cs:List Value} {y:DataW H × List MemPlace} (hn:cs.length=13)
    (h:DataW.trod enc Tryd.prog w 0 (fun _=>true) true fuel 38 cs=some y) :
    ∃ (x:ActQ) (a:Option Addr) (cap:Nat),cs=x.cs (.slice a x.l.length cap)/\x.Wd/\Bs w a cap x.l/\(a=none->cap=0):=by
 obtain⟨c0,c1,c2,c3,c4,c5,c6,c7,c8,c9,c10,c11,c12,rfl⟩:=list13 hn
 obtain⟨m0,y0,g0⟩:=open_fld Tryd.underlying38 h 0 _ rfl
 have t0:DataW.trod enc Tryd.prog w 0 (fun _=>true) true m0 3 (([c0,c1,c2,c3,c4,c5,c6,c7,c8,c9,c10,c11,c12].drop 0).take (Tryd.prog.cellsOf 3))=some y0:=g0
 rw[show Tryd.prog.cellsOf 3=1 from by kernel_rfl] at t0
 have u0:DataW.trod enc Tryd.prog w 0 (fun _=>true) true m0 3 [c0]=some y0:=t0
 obtain⟨m1,y1,g1⟩:=open_fld Tryd.underlying38 h 1 _ rfl
 have t1:DataW.trod enc Tryd.prog w 0 (fun _=>true) true m1 3 (([c0,c1,c2,c3,c4,c5,c6,c7,c8,c9,c10,c11,c12].drop 1).take (Tryd.prog.cellsOf 3))=some y1:=g1
 rw[show Tryd.prog.cellsOf 3=1 from by kernel_rfl] at t1
 have u1:DataW.trod enc Tryd.prog w 0 (fun _=>true) true m1 3 [c1]=some y1:=t1
 obtain⟨m2,y2,g2⟩:=open_fld Tryd.underlying38 h 2 _ rfl
 have t2:DataW.trod enc Tryd.prog w 0 (fun _=>true) true m2 36 (([c0,c1,c2,c3,c4,c5,c6,c7,c8,c9,c10,c11,c12].drop 2).take (Tryd.prog.cellsOf 36))=some y2:=g2
 rw[show Tryd.prog.cellsOf 36=11 from by kernel_rfl] at t2
 have u2:DataW.trod enc Tryd.prog w 0 (fun _=>true) true m2 36 [c2,c3,c4,c5,c6,c7,c8,c9,c10,c11,c12]=some y2:=t2
 obtain⟨k,e0,x0,w0⟩:=DataW.trod_int Tryd.underlying3 u0
 obtain rfl:c0 = .int .i64 k:=by simpa using e0
 obtain⟨i,e1,x1,w1⟩:=DataW.trod_int Tryd.underlying3 u1
 obtain rfl:c1 = .int .i64 i:=by simpa using e1
 obtain⟨f,l,a,cap,e2,hW,hK,hb,hnn⟩:=frame_open rfl u2
 refine⟨⟨k,i,f,l⟩,a,cap,?_,⟨hW,hK,w0,w1⟩,hb,hnn⟩
 show _ = .int .i64 k :: .int .i64 i::(f.cs (.slice a l.length cap)).toList
 rw[<- e2]
structure ActsQ (w:World) (a:Option Addr) (cap:Nat) (xs:List ActQ):Prop where
 hcap:xs.length<=cap
 hmax:cap<=maxLen
 hcells:0 < xs.length->∃ b o,a=some ⟨b,o,none⟩/\∀ j,j < xs.length->∃ a' c',(∀ i u,((xs.getD j dQ).cs (.slice a' (xs.getD j dQ).l.length c'))[i]? = some u->w.cell? ⟨b,o+j*13+i,none⟩=some u)/\(xs.getD j dQ).Wd/\Bs w a' c' (xs.getD j dQ).l/\(a'=none->c'=0)
theorem ActsQ.nil (w:World):ActsQ w none 0 []:=⟨Nat.le_refl _,by simp[maxLen],by simp⟩
theorem ActsQ.len {w:World} {a:Option Addr} {cap:Nat} {xs:List ActQ} (h:ActsQ w a cap xs):xs.length<=9223372036854775807:=by
 have h1:=h.hcap
 have h2:=h.hmax
 unfold maxLen at h2
 omega
theorem ActsQ.below {w w':World} {a:Option Addr} {cap:Nat} {xs:List ActQ} (h:ActsQ w a cap xs) (hb:Nb w w'):ActsQ w' a cap xs:=by
 refine⟨h.hcap,h.hmax,fun hl => ?_⟩
 obtain⟨b,o,ha,hc⟩:=h.hcells hl
 refine⟨b,o,ha,fun j hj => ?_⟩
 obtain⟨a',c',h1,h2,h4,h5⟩:=hc j hj
 exact⟨a',c',fun i u hu=>by
  have:=h1 i u hu
  rw[hb.cell (p:=⟨b,o+j*13+i,none⟩) (World.block_lt_of_cell? _ _ this)]
  exact this,h2,h4.below hb,h5⟩
theorem actsq_open {H:Type} {enc:TypeId × Value->H} {w:World} {fuel:Nat} {v:Value} {y:DataW H × List MemPlace}
    (h:DataW.trod enc Tryd.prog w 0 (fun _=>true) true fuel 22 [v]=some y) :
    ∃ a cap xs,v = .slice a (List.length xs) cap/\ActsQ w a cap xs/\(a=none->cap=0):=by
 rcases Go.Deep.open_slice Tryd.underlying22 h with ⟨hcs,_⟩ | ⟨a,len,cap,m,n,D,Pl,hcs,_,hl,hm,hmm,_,hx⟩
 ·exact⟨none,0,[],by simpa using hcs,ActsQ.nil w,fun _=>rfl⟩
 rw[show Tryd.prog.cellsOf 38=13 from by kernel_rfl] at hx
 have hle:len<=m:=by rw[hmm];split<;>omega
 have hk:∀ j,j < len->∃ p:ActQ,∃ a' c',(∀ i u,(p.cs (.slice a' p.l.length c'))[i]? = some u->w.cell? ((a.add (j*13)).add i)=some u)/\p.Wd/\Bs w a' c' p.l/\(a'=none->c'=0):=by
  intro j hj
  obtain⟨cs,h1,h2⟩:=hx j (by omega)
  obtain⟨_,hlen,hcell⟩:=World.cells?_some h1
  obtain⟨x,a',c',rfl,hw,hb,hnn⟩:=actq_open hlen h2
  refine⟨x,a',c',fun i u hu => ?_,hw,hb,hnn⟩
  have hi:i < 13:=by rw[<- hlen];exact (List.getElem?_eq_some_iff.1 hu).1
  rw[hcell i hi]
  exact hu
 haveI:Inhabited ActQ:=⟨dQ⟩
 obtain⟨g,hg⟩:=Go.Deep.choose_lt hk
 refine⟨some a,cap,(List.range len).map g,by simpa using hcs,⟨by simpa using hl,hm,fun h0 => ?_⟩,fun h=>by cases h⟩
 simp only[List.length_map,List.length_range] at h0 ⊢
 obtain⟨b,o,s⟩:=a
 have hs:s=none:=by
  obtain⟨a',c',h1,_⟩:=hg 0 h0
  have:=h1 0 _ rfl
  simpa [Addr.add] using World.cell?_spot this
 subst hs
 refine⟨b,o,rfl,fun j hj => ?_⟩
 have e:((List.range len).map g).getD j dQ=g j:=by simp[List.getD,hj]
 rw[e]
 obtain⟨a',c',h1,h2,h4,h5⟩:=hg j hj
 refine⟨a',c',fun i u hu => ?_,h2,h4,h5⟩
 have:=h1 i u hu
 rwa[Addr.add_lit,Addr.add_lit] at this
end Go.Proofs.YtdedoeeekcfkpaaDoor
