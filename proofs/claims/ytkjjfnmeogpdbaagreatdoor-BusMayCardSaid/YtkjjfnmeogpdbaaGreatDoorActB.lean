
/- What a slice of layer 13's acts is that came in. No conditions. -/
import Derived.Test.YtkjjfnmeogpdbaaGreatDoorOrF
set_option maxHeartbeats 1600000
namespace Go.Proofs.YtkjjfnmeogpdbaaGreatDoor
set_option linter.unusedVariables false
set_option linter.unusedSimpArgs false
open Go.RowKit Go.ChangeShapes Go.WideShapes
structure ActB where
 k:Int
 i:Int
 f:Hd
 l:List Nat
 n:Int
 t:Int
abbrev dA:ActB:=⟨0,0,dF.1,dF.2,0,0⟩
def ActB.cs(x:ActB)(v:Value):List Value := .int .i64 x.k :: .int .i64 x.i::((x.f.cs v).toList++[.int .u8 x.n,.int .u32 x.t])
structure ActB.Wd(x:ActB):Prop where
 f:WdX x.f
 K:(Lit.int .i64 x.f.K).wf=true
 k:(Lit.int .i64 x.k).wf=true
 i:(Lit.int .i64 x.i).wf=true
 n:(Lit.int .u8 x.n).wf=true
 t:(Lit.int .u32 x.t).wf=true
theorem list15{α:Type}{cs:List α}(h:cs.length=15):∃c0 c1 c2 c3 c4 c5 c6 c7 c8 c9 c10 c11 c12 c13 c14,cs=[c0,c1,c2,c3,c4,c5,c6,c7,c8,c9,c10,c11,c12,c13,c14]:=by
 match cs,h with
 | [c0,c1,c2,c3,c4,c5,c6,c7,c8,c9,c10,c11,c12,c13,c14],_=>exact⟨c0,c1,c2,c3,c4,c5,c6,c7,c8,c9,c10,c11,c12,c13,c14,rfl⟩
theorem act_open {H:Type} {enc:TypeId × Value->H} {w:World} {fuel:Nat} {cs:List Value} {y:DataW H × List MemPlace} (hn:cs.length=15)
    (h:DataW.trod enc Tryz.prog w 0 (fun _=>true) true fuel 39 cs=some y) :
    ∃(x:ActB) (a:Option Addr) (cap:Nat),cs=x.cs (.slice a x.l.length cap)/\x.Wd/\Bs w a cap x.l/\(a=none->cap=0):=by
 obtain⟨c0,c1,c2,c3,c4,c5,c6,c7,c8,c9,c10,c11,c12,c13,c14,rfl⟩:=list15 hn
 obtain⟨m0,y0,g0⟩:=zhv Tryz.underlying39 h 0 _ rfl
 have t0:DataW.trod enc Tryz.prog w 0 (fun _=>true) true m0 3 (([c0,c1,c2,c3,c4,c5,c6,c7,c8,c9,c10,c11,c12,c13,c14].drop 0).take (Tryz.prog.cellsOf 3))=some y0:=g0
 rw[show Tryz.prog.cellsOf 3=1 from by kernel_rfl]at t0
 have u0:DataW.trod enc Tryz.prog w 0 (fun _=>true) true m0 3 [c0]=some y0:=t0
 obtain⟨m1,y1,g1⟩:=zhv Tryz.underlying39 h 1 _ rfl
 have t1:DataW.trod enc Tryz.prog w 0 (fun _=>true) true m1 3 (([c0,c1,c2,c3,c4,c5,c6,c7,c8,c9,c10,c11,c12,c13,c14].drop 1).take (Tryz.prog.cellsOf 3))=some y1:=g1
 rw[show Tryz.prog.cellsOf 3=1 from by kernel_rfl]at t1
 have u1:DataW.trod enc Tryz.prog w 0 (fun _=>true) true m1 3 [c1]=some y1:=t1
 obtain⟨m2,y2,g2⟩:=zhv Tryz.underlying39 h 2 _ rfl
 have t2:DataW.trod enc Tryz.prog w 0 (fun _=>true) true m2 37 (([c0,c1,c2,c3,c4,c5,c6,c7,c8,c9,c10,c11,c12,c13,c14].drop 2).take (Tryz.prog.cellsOf 37))=some y2:=g2
 rw[show Tryz.prog.cellsOf 37=11 from by kernel_rfl]at t2
 have u2:DataW.trod enc Tryz.prog w 0 (fun _=>true) true m2 37 [c2,c3,c4,c5,c6,c7,c8,c9,c10,c11,c12]=some y2:=t2
 obtain⟨m3,y3,g3⟩:=zhv Tryz.underlying39 h 3 _ rfl
 have t3:DataW.trod enc Tryz.prog w 0 (fun _=>true) true m3 5 (([c0,c1,c2,c3,c4,c5,c6,c7,c8,c9,c10,c11,c12,c13,c14].drop 13).take (Tryz.prog.cellsOf 5))=some y3:=g3
 rw[show Tryz.prog.cellsOf 5=1 from by kernel_rfl]at t3
 have u3:DataW.trod enc Tryz.prog w 0 (fun _=>true) true m3 5 [c13]=some y3:=t3
 obtain⟨m4,y4,g4⟩:=zhv Tryz.underlying39 h 4 _ rfl
 have t4:DataW.trod enc Tryz.prog w 0 (fun _=>true) true m4 34 (([c0,c1,c2,c3,c4,c5,c6,c7,c8,c9,c10,c11,c12,c13,c14].drop 14).take (Tryz.prog.cellsOf 34))=some y4:=g4
 rw[show Tryz.prog.cellsOf 34=1 from by kernel_rfl]at t4
 have u4:DataW.trod enc Tryz.prog w 0 (fun _=>true) true m4 34 [c14]=some y4:=t4
 obtain⟨k,e0,x0,w0⟩:=DataW.trod_int Tryz.underlying3 u0
 obtain rfl:c0 = .int .i64 k:=by simpa using e0
 obtain⟨i,e1,x1,w1⟩:=DataW.trod_int Tryz.underlying3 u1
 obtain rfl:c1 = .int .i64 i:=by simpa using e1
 obtain⟨f,l,a,cap,e2,hW,hK,hb,hnn⟩:=frame_open rfl u2
 obtain⟨n,e3,x3,w3⟩:=DataW.trod_int Tryz.underlying5 u3
 obtain rfl:c13 = .int .u8 n:=by simpa using e3
 obtain⟨t,e4,x4,w4⟩:=DataW.trod_int Tryz.underlying34 u4
 obtain rfl:c14 = .int .u32 t:=by simpa using e4
 refine⟨⟨k,i,f,l,n,t⟩,a,cap,?_,⟨hW,hK,w0,w1,w3,w4⟩,hb,hnn⟩
 show _ = .int .i64 k :: .int .i64 i::((f.cs (.slice a l.length cap)).toList++[.int .u8 n,.int .u32 t])
 rw[<- e2]
 rfl
structure ActsB(w:World)(a:Option Addr)(cap:Nat)(xs:List ActB):Prop where
 hcap:xs.length<=cap
 hmax:cap<=maxLen
 hcells:0 < xs.length->∃b o,a=some ⟨b,o,none⟩/\∀j,j < xs.length->∃a' c',(∀i u,((xs.getD j dA).cs (.slice a' (xs.getD j dA).l.length c'))[i]? = some u->w.cell? ⟨b,o+j*15+i,none⟩=some u)/\(xs.getD j dA).Wd/\Bs w a' c' (xs.getD j dA).l/\(a'=none->c'=0)
theorem ActsB.nil(w:World):ActsB w none 0 []:=⟨Nat.le_refl _,by simp[maxLen],by simp⟩
theorem ActsB.len{w:World}{a:Option Addr}{cap:Nat}{xs:List ActB}(h:ActsB w a cap xs):xs.length<=9223372036854775807:=by
 have h1:=h.hcap
 have h2:=h.hmax
 unfold maxLen at h2
 omega
theorem ActsB.below{w w':World}{a:Option Addr}{cap:Nat}{xs:List ActB}(h:ActsB w a cap xs)(hb:Nb w w'):ActsB w' a cap xs:=by
 refine⟨h.hcap,h.hmax,fun hl => ?_⟩
 obtain⟨b,o,ha,hc⟩:=h.hcells hl
 refine⟨b,o,ha,fun j hj => ?_⟩
 obtain⟨a',c',h1,h2,h4,h5⟩:=hc j hj
 exact⟨a',c',fun i u hu=>by
  have:=h1 i u hu
  rw[hb.cell (p:=⟨b,o+j*15+i,none⟩) (World.block_lt_of_cell? _ _ this)]
  exact this,h2,h4.below hb,h5⟩
theorem acts_open {H:Type} {enc:TypeId × Value->H} {w:World} {fuel:Nat} {v:Value} {y:DataW H × List MemPlace}
    (h:DataW.trod enc Tryz.prog w 0 (fun _=>true) true fuel 23 [v]=some y) :
    ∃a cap xs,v = .slice a (List.length xs) cap/\ActsB w a cap xs/\(a=none->cap=0):=by
 rcases Go.Deep.open_slice Tryz.underlying23 h with ⟨hcs,_⟩ | ⟨a,len,cap,m,n,D,Pl,hcs,_,hl,hm,hmm,_,hx⟩
 ·exact⟨none,0,[],by simpa using hcs,ActsB.nil w,fun _=>rfl⟩
 rw[show Tryz.prog.cellsOf 39=15 from by kernel_rfl]at hx
 have hle:len<=m:=by rw[hmm];split<;>omega
 have hk:∀j,j < len->∃p:ActB,∃a' c',(∀i u,(p.cs (.slice a' p.l.length c'))[i]? = some u->w.cell? ((a.add (j*15)).add i)=some u)/\p.Wd/\Bs w a' c' p.l/\(a'=none->c'=0):=by
  intro j hj
  obtain⟨cs,h1,h2⟩:=hx j (by omega)
  obtain⟨_,hlen,hcell⟩:=World.cells?_some h1
  obtain⟨x,a',c',rfl,hw,hb,hnn⟩:=act_open hlen h2
  refine⟨x,a',c',fun i u hu => ?_,hw,hb,hnn⟩
  have hi:i < 15:=by rw[<- hlen];exact(List.getElem?_eq_some_iff.1 hu).1
  rw[hcell i hi]
  exact hu
 haveI:Inhabited ActB:=⟨dA⟩
 obtain⟨g,hg⟩:=Go.Deep.choose_lt hk
 refine⟨some a,cap,(List.range len).map g,by simpa using hcs,⟨by simpa using hl,hm,fun h0 => ?_⟩,fun h=>by cases h⟩
 simp only[List.length_map,List.length_range]at h0 ⊢
 obtain⟨b,o,s⟩:=a
 have hs:s=none:=by
  obtain⟨a',c',h1,_⟩:=hg 0 h0
  have:=h1 0 _ rfl
  simpa [Addr.add]using World.cell?_spot this
 subst hs
 refine⟨b,o,rfl,fun j hj => ?_⟩
 have e:((List.range len).map g).getD j dA=g j:=by simp[List.getD,hj]
 rw[e]
 obtain⟨a',c',h1,h2,h4,h5⟩:=hg j hj
 refine⟨a',c',fun i u hu => ?_,h2,h4,h5⟩
 have:=h1 i u hu
 rwa[Addr.add_lit,Addr.add_lit]at this
end Go.Proofs.YtkjjfnmeogpdbaaGreatDoor
