
/- What a slice of bools is that came in. No conditions. -/
import Derived.Test.YtplbmlpdefpplaaGreatDoorGa
namespace Go.Proofs.YtplbmlpdefpplaaGreatDoor
set_option linter.unusedVariables false
set_option linter.unusedSimpArgs false
open Go.RowKit Go.ChangeShapes Go.WideShapes
variable {cap:Nat} {w:World}
structure Bls(w:World)(a:Option Addr)(cap:Nat)(l:List Bool):Prop where
 hcap:l.length<=cap
 hmax:cap<=maxLen
 hcells:0 < l.length->∃b o,a=some ⟨b,o,none⟩/\∀j,j < l.length->w.cell? ⟨b,o+j,none⟩=some (.bool (l.getD j false))
theorem Bls.len{a:Option Addr}{l:List Bool}(h:Bls w a cap l):l.length<=9223372036854775807:=by
 have h1:=h.hcap
 have h2:=h.hmax
 unfold maxLen at h2
 omega
theorem Bls.below{w':World}{a:Option Addr}{l:List Bool}(h:Bls w a cap l)(hb:Nb w w'):Bls w' a cap l:=by
 refine⟨h.hcap,h.hmax,fun hl => ?_⟩
 obtain⟨b,o,ha,hc⟩:=h.hcells hl
 exact⟨b,o,ha,fun j hj=>by
  have:=hc j hj
  rw[hb.cell (p:=⟨b,o+j,none⟩) (World.block_lt_of_cell? _ _ this)]
  exact this⟩
theorem Bls.nil(w:World):Bls w none 0 []:=⟨Nat.le_refl _,by simp[maxLen],by simp⟩
theorem zjI {H:Type} {enc:TypeId × Value->H} {fuel:Nat} {v:Value} {y:DataW H × List MemPlace}
    (h:DataW.trod enc Tryz.prog w 0 (fun _=>true) true fuel 22 [v]=some y) :
    ∃a cap l,v = .slice a (List.length l) cap/\Bls w a cap l/\(a=none->cap=0):=by
 rcases Go.Deep.open_slice Tryz.underlying22 h with ⟨hcs,_⟩ | ⟨a,len,cap,m,n,D,Pl,hcs,_,hl,hm,hmm,_,hx⟩
 ·exact⟨none,0,[],by simpa using hcs,Bls.nil w,fun _=>rfl⟩
 rw[show Tryz.prog.cellsOf 4=1 from by kernel_rfl]at hx
 have hle:len<=m:=by rw[hmm];split<;>omega
 have hk:∀j,j < len->∃x:Bool,w.cell? ((a.add (j*1)).add 0)=some (.bool x):=by
  intro j hj
  obtain⟨cs,h1,h2⟩:=hx j (by omega)
  obtain⟨_,hlen,hcell⟩:=World.cells?_some h1
  obtain⟨c,rfl⟩:=List.length_eq_one_iff.1 hlen
  obtain⟨x,e,_⟩:=DataW.trod_bool Tryz.underlying4 h2
  obtain rfl:c = .bool x:=by simpa using e
  exact⟨x,by rw[hcell 0 (by omega)];rfl⟩
 obtain⟨g,hg⟩:=Go.Deep.choose_lt hk
 refine⟨some a,cap,(List.range len).map g,by simpa using hcs,⟨by simpa using hl,hm,fun h0 => ?_⟩,fun h=>by cases h⟩
 simp only[List.length_map,List.length_range]at h0 ⊢
 obtain⟨b,o,s⟩:=a
 have hs:s=none:=by
  have:=hg 0 h0
  simpa [Addr.add]using World.cell?_spot this
 subst hs
 refine⟨b,o,rfl,fun j hj => ?_⟩
 have e:((List.range len).map g).getD j false=g j:=by simp[List.getD,hj]
 rw[e]
 have:=hg j hj
 rwa[Addr.add_lit,Addr.add_lit,Nat.mul_one,Nat.add_zero]at this
end Go.Proofs.YtplbmlpdefpplaaGreatDoor
