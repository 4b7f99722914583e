/- The program's placesOf over package heaps, and more. Conditions: as each says. -/
import Derived.Test.YtplbmlpdefpplaaGreatDoorGha
set_option maxHeartbeats 3200000
set_option maxRecDepth 100000
namespace Go.Proofs.YtplbmlpdefpplaaGreatDoor
set_option linter.unusedVariables false
set_option linter.unusedSimpArgs false
open Go.RowKit
variable {ks rs:List Nat} {k q:Nat}
def z3L(fs:List (Hd × List Nat)):List Nat:=fs.map fun p=>z0X p.1
def z4E(fs:List (Hd × List Nat)):Bool:=fs.all fun p=>okF p.1 p.2
theorem z3T(fs:List (Hd × List Nat)):(z3L fs).length=fs.length:=by simp[z3L]
theorem zds(fs:List (Hd × List Nat))(h:k < fs.length):fs.take (k+1)=fs.take k++[fs.getD k dF]:=by
 rw[List.take_add_one]
 simp[List.getD,h]
theorem zcv(fs:List (Hd × List Nat))(h:k < fs.length):z3L (fs.take (k+1))=z3L (fs.take k)++[z0X (fs.getD k dF).1]:=by
 rw[zds fs h]
 simp only[z3L,List.map_append,List.map_cons,List.map_nil]
theorem zc0(fs:List (Hd × List Nat))(h:k < fs.length):z4E (fs.take (k+1))=(z4E (fs.take k)&&okF (fs.getD k dF).1 (fs.getD k dF).2):=by
 rw[zds fs h]
 simp only[z4E,List.all_append,List.all_cons,List.all_nil,Bool.and_true]
theorem zeS{fs:List (Hd × List Nat)}(h:k < fs.length)(hb:okF (fs.getD k dF).1 (fs.getD k dF).2=false):z4E fs=false:=by
 rw[z4E,List.all_eq_false]
 refine⟨fs[k],List.getElem_mem h,?_⟩
 have e:fs.getD k dF=fs[k]:=by simp[List.getD,h]
 rw[e]at hb
 simp[hb]
def zko(w:World)(fs:List (Hd × List Nat))(e:Ending)(w':World):Prop :=
 if z4E fs then ∃v l,e = .returned (.tuple #[.agg #[v,zms],.int .i64 0])/\z8C w' v l/\l.Perm (prs (z3L fs))/\HeQ d0 id zmp l l.length/\∀g,v.ownBlock=some g->w.heap.size<=g
 else e = .returned (.tuple #[.agg #[.slice none 0 0,.nilFunc],.int .i64 2])
theorem zmx(w:World):Calls Tryz.prog 41 #[(.func (.func 42) #[] #[])] w fun e w'=>e = .returned (.agg #[.slice none 0 0,(.func (.func 42) #[] #[])])/\Nb w w':=by
 go_enter Tryz.func41,Tryz.ntmps41
 go_wp2
 refine bodyPost_ret (v := .agg #[.slice none 0 0,(.func (.func 42) #[] #[])]) (by simp[results,Tryz.results41,go_sem]) rfl ?_
 exact⟨rfl,Nb.rfl.al _⟩
theorem z8f (a:Option Addr) (cap:Nat) (fs:List (Hd × List Nat)) (w:World) (h:z28 w a cap fs) (hn:fs.length<=1000) (hl:zV w) :
    Calls Tryz.prog 19 #[.slice a fs.length cap] w fun e w'=>zko w fs e w'/\Nb w w':=by
 have HF:=zH h
 have HL:=zH hl
 have hL:=h.len
 have hcap:=h.hcap
 clear h hl
 have HN:=zH (fun w=>zmx w)
 obtain⟨y,hy⟩:∃y,y=w.alloc (.cells #[.slice none 0 0,.nilFunc] 70):=⟨_,rfl⟩
 have YB:=zH (show Blk y w.heap.size #[.slice none 0 0,.nilFunc] 70 by rw[hy];exact Blk.new _ _ _)
 have NY:=zH (show Nb w y by rw[hy];exact Nb.rfl.al _)
 have HY:=zH hy
 have SY:=zH (show y.heap.size=w.heap.size+1 by rw[hy,World.size_alloc])
 clear hy
 go_enter Tryz.func19,Tryz.ntmps19
 go_wp2_with fail
 rw[<- HY.out]
 refine(HN.out _).mono ?_
 rintro e w1 ⟨rfl,n1⟩
 go_wp2
 obtain⟨w0,hw0⟩:∃w0,w0=w1.alloc (.cells #[.slice none 0 0,.func (.func 42) #[] #[]] 70):=⟨_,rfl⟩
 have n0:Nb y w0:=by rw[hw0];exact n1.al _
 have B0:=zH (show HeP w0 w1.heap.size (.slice none 0 0) [] from⟨by rw[hw0];exact Blk.new _ _ _,z8C.nil _,by simp[Value.ownBlock]⟩)
 have HN0:=zH (NY.out.tr n0)
 have YB0:=zH (YB.out.nb n0)
 rw[<- hw0]
 have hR1:w.heap.size < w1.heap.size:=by have:=n1.size;have:=SY.out;omega
 obtain⟨R,hR⟩:∃R,R=w1.heap.size:=⟨_,rfl⟩
 rw[<- hR]at B0 hR1 ⊢
 have hRl:=B0.out.blk.lt
 clear hR hw0 n0 n1 HN YB HY
 go_loopw [12] (fun ix wr=>∃(k:Nat) (v:Value) (l:List (Nat × Nat)),k<=fs.length/\ix = .int .i64 k/\z4E (fs.take k)=true/\HeP wr R v l/\l.Perm (prs (z3L (fs.take k)))/\HeQ d0 id zmp l l.length/\(∀g,v.ownBlock=some g->R < g)/\Nb w wr/\Blk wr w.heap.size #[.slice none 0 0,.nilFunc] 70) (fun ix _=>fs.length - (intOf ix).toNat)
 case atStart=>exact⟨0,.slice none 0 0,[],Nat.zero_le _,rfl,by simp[z4E],B0.out,List.Perm.refl _,fun c h1 h2=>by simp at h2,by simp[Value.ownBlock],HN0.out,YB0.out⟩
 case round =>
  obtain⟨k,v,l0,hk,rfl,hok,hb,hp,hh,hv,hnb,hyb⟩:=hrel
  have HK:=zH hok
  have HBl:=zH hb
  have HP:=zH hp
  have HH:=zH hh
  have HV:=zH hv
  have HN:=zH hnb
  have YB:=zH hyb
  have hll:l0.length=k:=by rw[hp.length_eq,prs,List.length_zipIdx,z3T,List.length_take];omega
  have HLl:=zH hll
  clear hok hb hp hh hv hnb hyb hll
  by_cases hlt:k < fs.length
  ·obtain⟨b,o,rfl,hcc⟩:=HF.out.hcells (by omega)
   clear hcc
   have hat:=fun K I X R B E S D V A l=>(HF.out.below HN.out).at hlt (K:=K) (I:=I) (X:=X) (R:=R) (B:=B) (E:=E) (S:=S) (D:=D) (V:=V) (A:=A) (l:=l)
   have HT:=zH (zcv fs hlt)
   have HA:=zH (zc0 fs hlt)
   have HBad:=zH (fun hb=>zeS (fs:=fs) hlt hb)
   obtain⟨⟨⟨K,I,X,RT,B,E,S,D,V,A⟩,l⟩,hf⟩:∃p,p=fs.getD k dF:=⟨_,rfl⟩
   obtain⟨a',c',⟨c0,c1,c2,c3,c4,c5,c6,c7,c8,c9,c10⟩,hW,hKw,hBs,hnn⟩:=hat K I X RT B E S D V A l hf.symm
   rw[<- hf]at HT HA HBad
   clear hat hf
   have KC0:=(fun w' (n:Nb wr w')=>z9F ⟨K,I,X,RT,B,E,S,D,V,A⟩ a' c' l w' (hBs.below n) hW.1 ((HL.out.below HN.out).below n))
   unfold zl8 at KC0
   simp only[Hd.cs]at KC0
   have KC:=zH KC0
   clear KC0
   have HLv:=zH (z3T (fs.take k))
   have hlL:=hBs.len
   clear hW hKw hBs hnn
   have hi:(k:Int) < (fs.length:Int):=by omega
   cases hcase:okF ⟨K,I,X,RT,B,E,S,D,V,A⟩ l with
   | false =>
     rw[show zt ⟨K,I,X,RT,B,E,S,D,V,A⟩ l=2 by simp[zt,hcase]]at KC
     generalize zhs ⟨K,I,X,RT,B,E,S,D,V,A⟩ l=kv at KC
     have hbad:=HBad.out hcase
     have HX:=zH hbad
     clear hcase hbad HBad HA HT HK
     go_wp2_with fail
     refine(KC.out _ (Nb.rfl.al _)).mono ?_
     rintro e w1 ⟨rfl,n1⟩
     have N1:=zH (HN.out.tr ((Nb.rfl.al _).tr n1))
     have Y1:=zH (YB.out.nb ((Nb.rfl.al _).tr n1))
     clear n1 c0 c1 c2 c3 c4 c5 c6 c7 c8 c9 c10
     go_wp2_with (refine wpList_store_row (by rfl) _ _ _ (by rfl) _ _ (by rfl) (by rfl) _ _ Y1.out (by kernel_rfl) (by rfl) (by simp[Value.oneCell']) ?_)
     have hb:=Blk.rowH Y1.out #[.slice none 0 0,.nilFunc]
     have kq:=Kp.rowH w1 w.heap.size #[.slice none 0 0,.nilFunc]
     change bodyPost _ _ _ _ _ (World.setRow w1 w.heap.size #[.slice none 0 0,.nilFunc])
     generalize World.setRow w1 w.heap.size #[.slice none 0 0,.nilFunc]=WW at hb kq ⊢
     obtain⟨e0,e1⟩:WW.cell? ⟨w.heap.size,0,none⟩=some (.slice none 0 0)/\WW.cell? ⟨w.heap.size,1,none⟩=some .nilFunc:=⟨hb.cell 0,hb.cell 1⟩
     refine bodyPost_ret (v := .tuple #[.agg #[.slice none 0 0,.nilFunc],.int .i64 2]) (by simp[results,Tryz.results19,go_sem,e0,e1]) rfl ⟨?_,N1.out.trans (kq.toBelow N1.out.size (fun k hk=>by omega))⟩
     unfold zko
     rw[if_neg (by rw[HX.out];simp)]
   | true =>
     rw[show zt ⟨K,I,X,RT,B,E,S,D,V,A⟩ l=0 by simp[zt,hcase],show zhs ⟨K,I,X,RT,B,E,S,D,V,A⟩ l=z0X ⟨K,I,X,RT,B,E,S,D,V,A⟩ by simp[zhs,hcase]]at KC
     have HA2:=zH (show z4E (fs.take (k+1))=true by rw[HA.out,HK.out];simpa using hcase)
     simp only at HT
     generalize z0X ⟨K,I,X,RT,B,E,S,D,V,A⟩=kf at KC HT
     clear hcase HBad HA HK
     have HT2:=zH (show prs (z3L (fs.take (k+1)))=prs (z3L (fs.take k))++[(kf,k)] by rw[HT.out,zhr,HLv.out,List.length_take,Nat.min_eq_left (by omega)])
     have WP:=zH (fun w' (n:Nb wr w')=>zmU R v l0 (kf,k) w' (HBl.out.nb n) (by rw[HLl.out];omega) HH.out)
     simp only[enP]at WP
     clear HT HLv
     go_wp2_with fail
     refine(KC.out _ (Nb.rfl.al _)).mono ?_
     rintro e w1 ⟨rfl,n1⟩
     have m1:Nb wr w1:=(Nb.rfl.al _).tr n1
     have M1:=zH m1
     clear n1 m1 c0 c1 c2 c3 c4 c5 c6 c7 c8 c9 c10 KC
     go_wp2_with fail
     refine(WP.out _ M1.out).mono ?_
     rintro e w2 ⟨rfl,v2,l2,p2,q2,h2,g2,k2⟩
     have P2:=zH p2
     have Q2:=zH q2
     have H2:=zH h2
     have V2:=zH (show ∀g,v2.ownBlock=some g->R < g from fun g hg=>by
      rcases g2 g hg with h | h
      ·exact HV.out g h
      ·have:=M1.out.size
       have:=HBl.out.blk.lt
       omega)
     have N2:=zH ((HN.out.tr M1.out).trans (k2.toBelow (HN.out.tr M1.out).size (fun g hg=>hg.elim (fun e=>by omega) (fun e=>by have:=HV.out g e;omega))))
     have Y2:=zH ((YB.out.nb M1.out).keep k2 (fun e=>e.elim (fun e=>by omega) (fun e=>by have:=HV.out _ e;omega)))
     clear p2 q2 h2 g2 k2 WP
     go_wp2
     go_roundw
     case rel=>exact⟨k+1,v2,l2,by omega,by go_num,HA2.out,P2.out,by rw[HT2.out];exact Q2.out.trans (HP.out.append_right _),H2.out,V2.out,N2.out,Y2.out⟩
     case measure=>simp[intOf];omega
  ·obtain rfl:k=fs.length:=by omega
   rw[List.take_length]at HP HK
   obtain⟨va,vc,rfl,_⟩:=HBl.out.own.shape
   have r0:=HBl.out.blk.cell 0
   have r1:=HBl.out.blk.cell 1
   simp only[List.getElem?_toArray,List.getElem?_cons_zero,List.getElem?_cons_succ,zms]at r0 r1
   have hR1':=HBl.out.blk.lt
   go_wp2_with (refine wpList_store_row (by rfl) _ _ _ (by rfl) _ _ (by rfl) (by rfl) _ _ YB.out (by kernel_rfl) (by rfl) (by simp[Value.oneCell']) ?_)
   have hb:=Blk.rowH YB.out #[.slice va l0.length vc,zms]
   have kq:=Kp.rowH wr w.heap.size #[.slice va l0.length vc,zms]
   change bodyPost _ _ _ _ _ (World.setRow wr w.heap.size #[.slice va l0.length vc,zms])
   generalize World.setRow wr w.heap.size #[.slice va l0.length vc,zms]=WW at hb kq ⊢
   obtain⟨e0,e1⟩:WW.cell? ⟨w.heap.size,0,none⟩=some (.slice va l0.length vc)/\WW.cell? ⟨w.heap.size,1,none⟩=some zms:=⟨hb.cell 0,hb.cell 1⟩
   refine bodyPost_ret (v := .tuple #[.agg #[.slice va l0.length vc,zms],.int .i64 0]) (by simp[results,Tryz.results19,go_sem,e0,e1]) rfl ⟨?_,HN.out.trans (kq.toBelow HN.out.size (fun k hk=>by omega))⟩
   unfold zko
   rw[if_pos HK.out]
   exact⟨_,l0,rfl,HBl.out.own.keep kq (fun g e q=>by have:=HV.out g e;omega),HP.out,HH.out,fun g e=>by have:=HV.out g e;omega⟩
def zkR(fs:List (Hd × List Nat)):List Nat:=if z4E fs then rk (z3L fs)else []
def zkj(fs:List (Hd × List Nat)):Nat:=if z4E fs then 0 else 2
structure RkJ(ks:List Nat)(done:List (Nat × Nat))(b:Bool)(x:Nat × Nat)(rest:List (Nat × Nat)):Prop where
 perm:(done++((if b then [x]else [])++rest)).Perm (prs ks)
 sort:done.Pairwise leP
 low:∀p∈done,∀q∈(if b then [x]else [])++rest,leP p q
 hd:b=true->∀q∈[x]++rest,leP x q
 no:b=false->rest=[]
theorem RkJ.next{done rest rest':List (Nat × Nat)}{x y:Nat × Nat}{b:Bool}(h:RkJ ks done true x rest)(ht:b=true->rest.Perm (y::rest')/\∀q∈rest,leP y q)(hf:b=false->rest=[]/\rest'=[]):RkJ ks (done++[x]) b y rest':=by
 have hr:((if b then [y]else [])++rest').Perm rest:=by
  cases b with
  | true=>exact(ht rfl).1.symm
  | false=>rw[(hf rfl).1,(hf rfl).2];exact List.Perm.refl _
 have hp:(done++[x]++((if b then [y]else [])++rest')).Perm (prs ks):=by
  rw[List.append_assoc]
  exact((hr.append_left [x]).append_left done).trans h.perm
 refine⟨hp,?_,fun p hp q hq => ?_,fun e q hq => ?_,fun e=>(hf e).2⟩
 ·rw[List.pairwise_append]
  exact⟨h.sort,List.pairwise_singleton _ _,fun p hp q hq=>by rw[List.mem_singleton.1 hq];exact h.low p hp x (by simp)⟩
 ·have hq2:=hr.mem_iff.1 hq
  rcases List.mem_append.1 hp with hp | hp
  ·exact h.low p hp q (by simp only[if_true];exact List.mem_append_right _ hq2)
  ·rw[List.mem_singleton.1 hp]
   exact h.hd rfl q (List.mem_append_right _ hq2)
 ·exact(ht e).2 q ((ht e).1.mem_iff.2 (by simpa using hq))
theorem RkJ.first{l rest:List (Nat × Nat)}{x:Nat × Nat}{b:Bool}(hp:l.Perm (prs ks))(ht:b=true->l.Perm (x::rest)/\∀q∈l,leP x q)(hf:b=false->l=[]/\rest=[]):RkJ ks [] b x rest:=by
 refine⟨?_,List.Pairwise.nil,by simp,fun e q hq=>(ht e).2 q ((ht e).1.mem_iff.2 (by simpa using hq)),fun e=>(hf e).2⟩
 cases b with
 | true=>exact((ht rfl).1.symm.trans hp)
 | false=>rw[(hf rfl).1]at hp;rw[(hf rfl).2];exact hp
theorem RkJ.fin{done rest:List (Nat × Nat)}{x:Nat × Nat}(h:RkJ ks done false x rest):done=rkP ks:=by
 have hp:=h.perm
 rw[h.no rfl]at hp
 exact zk8 (by simpa using hp) h.sort
theorem zmE (R:Nat) (v:Value) (l:List (Nat × Nat)) (w:World) (h:HeP w R v l) (hl:l.length<=1000) (hh:HeQ d0 id zmp l l.length) :
    Calls Tryz.prog 20 #[.pointer (some ⟨R,0,none⟩)] w fun e w'=>∃(x:Nat × Nat) (b:Bool) (v':Value) (rest:List (Nat × Nat)),e = .returned (.tuple #[.agg #[.int .u64 (x.1:Nat),.int .i64 (x.2:Nat)],.bool b])/\HeP w' R v' rest/\v'.ownBlock=v.ownBlock/\HeQ d0 id zmp rest rest.length/\rest.length<=l.length/\Kp (fun k=>k=R\/v.ownBlock=some k) w w'/\(b=true->l.Perm (x::rest)/\∀q∈l,leP x q)/\(b=false->l=[]/\rest=[]):=by
 by_cases h0:l.length=0
 ·have e0:=List.length_eq_zero_iff.1 h0
  subst e0
  refine(zmG R v w h).mono ?_
  rintro e w' ⟨rfl,n⟩
  exact⟨(0,0),false,v,[],rfl,h.nb n,Eq.refl _,hh,Nat.le_refl _,Kp.ofNb n,by simp,by simp⟩
 ·obtain⟨n,hn⟩:∃n,l.length=n+1:=⟨l.length - 1,by omega⟩
  refine(zmF R v l n w h hn hl hh).mono ?_
  rintro e w' ⟨rfl,v',l',t⟩
  refine⟨l.getD 0 d0,true,v',l',rfl,t.at',t.own,t.heap,by rw[t.len];omega,t.kp,fun _=>⟨t.perm,fun q hq => ?_⟩,by simp⟩
  obtain⟨j,hj,rfl⟩:=List.getElem_of_mem hq
  have:=hh.min d0 id j hj
  rw[show l.getD j d0=l[j] by simp[List.getD,hj]]at this
  exact this
theorem zjC (a:Option Addr) (cap:Nat) (fs:List (Hd × List Nat)) (w:World) (h:z28 w a cap fs) (hn:fs.length<=1000) (hl:zV w) :
    Calls Tryz.prog 8 #[.slice a fs.length cap] w fun e w'=>zmh w (zkR fs) (zkj fs) e w'/\Nb w w':=by
 have HP:=zH (z8f a cap fs w h hn hl)
 have hL:=h.len
 clear h hl
 unfold zkj zkR
 cases hok:z4E fs with
 | false =>
   simp only[Bool.false_eq_true,if_false]
   unfold zko at HP
   simp only[hok,Bool.false_eq_true,if_false]at HP
   clear hok
   go_enter Tryz.func8,Tryz.ntmps8
   go_wp2_with fail
   refine HP.out.mono ?_
   rintro e w1 ⟨rfl,n1⟩
   have N1:=zH n1
   clear n1
   go_wp2
   go_ret2
   exact⟨⟨_,rfl,z7p.nil _,by simp[Value.ownBlock]⟩,Nb.al N1.out _⟩
 | true =>
   simp only[if_true]
   unfold zko at HP
   simp only[hok,if_true,zms]at HP
   clear hok
   have hkl:=z3T fs
   generalize z3L fs=ks at *
   go_enter Tryz.func8,Tryz.ntmps8
   go_wp2_with fail
   refine HP.out.mono ?_
   rintro e w1 ⟨⟨v,l,rfl,o1,q1,h1,g1⟩,n1⟩
   have hll:l.length=fs.length:=by rw[q1.length_eq,prs,List.length_zipIdx,hkl]
   obtain⟨va,vc,rfl,_⟩:=o1.shape
   obtain⟨y,hy⟩:∃y,y=w1.alloc (.cells #[.slice va l.length vc,.func (.func 42) #[] #[]] 70):=⟨_,rfl⟩
   have PY:=zH (show HeP y w1.heap.size (.slice va l.length vc) l from⟨by rw[hy];exact Blk.new _ _ _,by rw[hy];exact o1.nb (Nb.rfl.al _),fun e=>by have:=o1.lt e;omega⟩)
   have NY:=zH (show Nb w y by rw[hy];exact n1.al _)
   have HY:=zH hy
   have SY:=zH (show y.heap.size=w1.heap.size+1 by rw[hy,World.size_alloc])
   have hR:w.heap.size<=w1.heap.size:=n1.size
   obtain⟨o0,ho0⟩:∃o0,o0=Value.ownBlock (.slice va l.length vc):=⟨_,rfl⟩
   have G0:=zH (show ∀g,o0=some g->w.heap.size<=g/\g < w1.heap.size from fun g e=>by rw[ho0]at e;exact⟨g1 g e,o1.lt e⟩)
   have Q1:=zH q1
   have HLL:=zH hll
   have HKL:=zH hkl
   have TK:=zH (zmE w1.heap.size _ l y PY.out (by omega) h1)
   rw[<- ho0]at TK
   clear hy n1 o1 g1 q1 h1 hkl hll
   go_wp2_with fail
   rw[<- HY.out]
   refine TK.out.mono ?_
   rintro e w2 ⟨⟨xk,xn⟩,b,v2,rest,rfl,p2,o2,h2,l2,k2,t2,f2⟩
   have N2:=zH (show Nb w w2 from NY.out.trans (k2.toBelow NY.out.size (fun g hg=>hg.elim (fun e=>by omega) (fun e=>(G0.out g e).1))))
   have K2:=zH (show w1.heap.size < w2.heap.size by have:=k2.size;have:=SY.out;omega)
   obtain⟨w0,hw0⟩:∃w0,w0=w2.alloc (.cells #[.int .u64 (xk:Nat),.int .i64 (xn:Nat)] 75):=⟨_,rfl⟩
   have B0:=zH (show Blk w0 w2.heap.size #[.int .u64 (xk:Nat),.int .i64 (xn:Nat)] 75 by rw[hw0];exact Blk.new _ _ _)
   have n0:Nb w2 w0:=by rw[hw0];exact Nb.rfl.al _
   have P0:=zH (p2.nb n0)
   have N0:=zH (N2.out.tr n0)
   have J0:=zH (RkJ.first Q1.out t2 f2)
   have O2:=zH (show v2.ownBlock=o0 from o2)
   have H2:=zH h2
   have HW0:=zH hw0
   clear p2 o2 h2 l2 k2 t2 f2 n0 hw0 HY SY TK PY NY
   go_wp2
   rw[<- HW0.out]
   clear HW0
   have hRl2:=K2.out
   generalize w1.heap.size=R at hR G0 hRl2 P0 ⊢
   generalize w2.heap.size=B1 at B0 hRl2 ⊢
   go_loopw [6,7,8] (fun s p o wr=>∃(done:List (Nat × Nat)) (b:Bool) (x:Nat × Nat) (rest:List (Nat × Nat)) (v:Value) (B:Nat),p = .pointer (some ⟨B,0,none⟩)/\o = .bool b/\Blk wr B #[.int .u64 (x.1:Nat),.int .i64 (x.2:Nat)] 75/\HeP wr R v rest/\HeQ d0 id zmp rest rest.length/\v.ownBlock=o0/\Hid (RkJ ks done b x rest)/\z7p wr s (done.map (·.2))/\(∀g,s.ownBlock=some g->w.heap.size<=g/\g≠R/\o0≠some g/\g≠B)/\B≠R/\o0≠some B/\w.heap.size<=B/\Nb w wr) (fun s _ _ _=>fs.length - zme s)
   case atStart=>exact⟨[],b,(xk,xn),rest,v2,B1,rfl,rfl,B0.out,P0.out,H2.out,O2.out,J0,z7p.nil _,by simp[Value.ownBlock],by omega,fun e=>by have:=G0.out _ e;omega,by omega,N0.out⟩
   case round =>
    obtain⟨done,b,⟨xk,xn⟩,rest,v,B,rfl,rfl,hb,hp,hh,hv,hj,ho,hs,hBR,hoB,hwB,hnb⟩:=hrel
    obtain⟨sa,sc,hse,_,_,_⟩:=ho.shape
    rw[List.length_map]at hse
    subst hse
    have HO:=zH ho
    have HS:=zH hs
    have HN:=zH hnb
    have HB:=zH hb
    have HPl:=zH hp
    have HH:=zH hh
    have HV:=zH hv
    cases b with
    | false =>
      have HD:=zH hj.out.fin
      clear ho hs hnb hb hp hh hv hj
      go_wp2
      go_ret2
      exact⟨⟨_,rfl,by rw[rk,<- HD.out];exact HO.out,fun g hg=>(HS.out g hg).1⟩,HN.out⟩
    | true =>
      have hlen:done.length+(1+rest.length)=fs.length:=by
       have:=hj.out.perm.length_eq
       rw[List.length_append,prs,List.length_zipIdx,HKL.out]at this
       simpa [Nat.add_comm]using this
      have hRl:=hp.blk.lt
      have hBl:=hb.lt
      have b1:=hb.cell 1
      have b0:=hb.cell 0
      simp only[List.getElem?_toArray,List.getElem?_cons_zero,List.getElem?_cons_succ]at b0 b1
      clear ho hs hnb hb hp hh hv
      go_wp2_with (at_builtin;refine zak _ rfl (.tmp 26) (.tmp 29) rfl _ _ rfl (HO.out.nb (Nb.rfl.al _)) wr.heap.size xn rfl (by simp) (by rw[List.length_map];omega) ?_)
      intro v4 w4 ho4 hk4 hf4
      have V4:=zH (show ∀g,v4.ownBlock=some g->w.heap.size<=g/\g≠R/\o0≠some g/\g≠B from fun g hg=>by
       rcases hf4 g hg with h | h
       ·exact HS.out g h
       ·have h3:wr.heap.size<=g:=by first | omega | (simp at h;omega)
        have h4:=HN.out.size
        exact⟨by omega,by omega,fun e=>by have:=HPl.out.own.lt (HV.out.trans e);omega,by omega⟩)
      have N4:=zH (show Nb w w4 from(Nb.al HN.out _).trans (hk4.toBelow (Nat.le_trans HN.out.size (by simp)) (fun g hg=>(HS.out g hg).1)))
      have hks:wr.heap.size < w4.heap.size:=by have:=hk4.size;simp at this;omega
      have P4:=zH ((HPl.out.nb (Nb.rfl.al _)).keep hk4 (fun hg=>(HS.out R hg).2.1 rfl) (fun g hg h=>(HS.out g h).2.2.1 (HV.out.symm.trans hg)))
      have B4:=zH ((HB.out.nb (Nb.rfl.al _)).keep hk4 (fun hg=>(HS.out B hg).2.2.2 rfl))
      obtain⟨va4,vc4,hve4,_,_,_⟩:=ho4.shape
      have hll4:(done.map (·.2)++[xn]).length=done.length+1:=by simp
      rw[hll4]at hve4
      subst hve4
      have O4:=zH ho4
      clear ho4 hk4 hf4 hll4 b0 b1
      have b1:=B4.out.cell 1
      have b0:=B4.out.cell 0
      simp only[List.getElem?_toArray,List.getElem?_cons_zero,List.getElem?_cons_succ]at b0 b1
      obtain⟨y,hy⟩:∃y,y=w4.alloc (.cells #[.int .u64 (xk:Nat),.int .i64 (xn:Nat)] 75):=⟨_,rfl⟩
      have ny:Nb w4 y:=by rw[hy];exact Nb.rfl.al _
      have BY:=zH (show Blk y w4.heap.size #[.int .u64 (xk:Nat),.int .i64 (xn:Nat)] 75 by rw[hy];exact Blk.new _ _ _)
      have PY:=zH (P4.out.nb ny)
      have NY:=zH ny
      have HY:=zH hy
      have TK:=zH (zmE R v rest y PY.out (by omega) HH.out)
      rw[HV.out]at TK
      clear hy ny
      go_wp2_with fail
      rw[<- HY.out]
      refine TK.out.mono ?_
      rintro e w5 ⟨⟨yk,yn⟩,b,v5,rest5,rfl,p5,o5,h5,l5,k5,t5,f5⟩
      have hsz:=hj.out
      have J5:=zH (hj.out.next t5 f5)
      have hRB:R < w4.heap.size:=P4.out.blk.lt
      have hG4:∀g,o0=some g->g < w4.heap.size:=fun g e=>P4.out.own.lt (HV.out.trans e)
      have B5:=zH (BY.out.keep k5 (fun e=>e.elim (fun e=>by omega) (fun e=>by have:=hG4 _ e;omega)))
      have N5:=zH (show Nb w w5 from(N4.out.tr NY.out).trans (k5.toBelow (N4.out.tr NY.out).size (fun g hg=>hg.elim (fun e=>by have:=HN.out;omega) (fun e=>(G0.out g e).1))))
      have O5:=zH ((O4.out.nb NY.out).keep k5 (fun g hg e=>e.elim (fun e=>(V4.out g hg).2.1 e) (fun e=>(V4.out g hg).2.2.1 e)))
      have P5:=zH p5
      have H5:=zH h5
      have E5:=zH (show v5.ownBlock=o0 from o5)
      clear p5 o5 h5 l5 k5 t5 f5 hsz hj b0 b1
      go_wp2_with (refine wpList_store_row (by rfl) _ _ _ (by rfl) _ _ (by rfl) (by rfl) _ _ B5.out (by kernel_rfl) (by rfl) (by simp[Value.oneCell']) ?_)
      have hb:=Blk.rowH B5.out #[.int .u64 (yk:Nat),.int .i64 (yn:Nat)]
      have kq:=Kp.rowH w5 w4.heap.size #[.int .u64 (yk:Nat),.int .i64 (yn:Nat)]
      have WX:∃WX,WX=World.setRow w5 w4.heap.size #[.int .u64 (yk:Nat),.int .i64 (yn:Nat)]:=⟨_,rfl⟩
      obtain⟨WX,hWX⟩:=WX
      rw[<- hWX]at hb kq
      have HWX:=zH hWX
      have HB6:=zH hb
      have KQ:=zH kq
      have hw4:=N4.out.size
      clear hb kq hWX
      go_wp2
      go_roundw
      case rel =>
       rw[show World.setRow w5 w4.heap.size #[.int .u64 (yk:Nat),.int .i64 (yn:Nat)]=WX from HWX.out.symm]
       exact⟨done++[(xk,xn)],b,(yk,yn),rest5,v5,w4.heap.size,rfl,rfl,HB6.out,P5.out.keep KQ.out (fun e=>by omega) (fun g hg e=>by have:=hG4 g (E5.out.symm.trans hg);omega),H5.out,E5.out,J5,by rw[List.map_append];exact O5.out.keep KQ.out (fun g hg e=>by have:=(World.ownsRow.lt O4.out g hg).2;omega),fun g hg=>⟨(V4.out g hg).1,(V4.out g hg).2.1,(V4.out g hg).2.2.1,by have:=(World.ownsRow.lt O4.out g hg).2;omega⟩,by omega,fun e=>by have:=hG4 _ e;omega,by omega,N5.out.trans (KQ.out.toBelow N5.out.size (fun g e=>by omega))⟩
      case measure=>simp[zme];omega
open Go.RowKit Go.Maps
def Dm(rs:List Nat):DataW Unit:=Go.Maps.setOf (.lit (.bool true)) (rs.map fun p:Nat=>Lit.int .i64 (p:Int))
theorem zlQ(rs:List Nat)(p:Nat):Dm (rs++[p])=(Dm rs).put (.int .i64 (p:Int)) (.lit (.bool true)):=by
 unfold Dm
 rw[List.map_append,List.map_cons,List.map_nil,Go.Maps.setOf_snoc]
theorem zj2(h:q∉rs)(z:DataW Unit):(Dm rs).atKey (.int .i64 (q:Int)) z=z:=by
 apply Go.Maps.atKey_of_not_has
 rw[Dm,Go.Maps.has_setOf _ _ _ (by intro x hx;obtain⟨p,_,rfl⟩:=List.mem_map.1 hx;trivial)]
 rw[List.any_eq_false]
 intro x hx
 obtain⟨p,hp,rfl⟩:=List.mem_map.1 hx
 rw[Go.Maps.sameKey_ne (by intro he;simp only[Lit.int.injEq,true_and]at he;exact h (by rw[show q=p by omega];exact hp))]
 simp
theorem zgx:Keyed Tryz.prog 3:=int_keyed Tryz.underlying3
theorem zk7(p:Nat)(h:p<=1000):keyOf Tryz.prog 3 (.int .i64 (p:Int))=some (.int .i64 (p:Int)):=keyOf_int_mk Tryz.underlying3 (by simp[Lit.wf,IntKind.min,IntKind.max,IntKind.signed,IntKind.bits];omega)
theorem z3p{P:Program}{e:TypeId}(he:P.underlying e=some .bool){v:Value}{z:DataW Unit × List MemPlace}(h:plainElem (H:=Unit) P e v=some z):∃x,v = .bool x/\z=(.lit (.bool x),[]):=by
 unfold plainElem at h
 rw[he]at h
 cases v<;>simp at h
 exact⟨_,rfl,h.symm⟩
theorem zm9 {w:World} {B n:Nat} (h:w.ownsMap Tryz.prog 3 (plainElem (H:=Unit) Tryz.prog 4) B n (Dm rs)) (hq:q∉rs) (hq1:q<=1000) :
    (Instr.lookup 38 (.map (some B)) (.int .i64 (q:Int)) false).run Tryz.prog w = .ok (.bool false) w:=by
 obtain⟨v,ps,hrun,hv⟩:=h.lookup zgx Tryz.underlying38 (show(zeroValue 4).run Tryz.prog w = .ok (.bool false) w by kernel_rfl) (plainElem_bool Tryz.underlying4 false) (zk7 q hq1)
 rw[zj2 hq]at hv
 obtain⟨x,rfl,hx⟩:=z3p Tryz.underlying4 hv
 simp only[Prod.mk.injEq,DataW.lit.injEq,Lit.bool.injEq]at hx
 rw[hrun,<- hx.1]
theorem zjJ{w w':World}{B n:Nat}{D:DataW Unit}(h:w.ownsMap Tryz.prog 3 (plainElem (H:=Unit) Tryz.prog 4) B n D)(hb:Nb w w'):w'.ownsMap Tryz.prog 3 (plainElem (H:=Unit) Tryz.prog 4) B n D:=by
 have hl:=h.lt
 obtain⟨es,c,h1,h2,h3,h4⟩:=h
 exact⟨es,c,(hb.block B hl).trans h1,h2,h3,h4⟩
end Go.Proofs.YtplbmlpdefpplaaGreatDoor
