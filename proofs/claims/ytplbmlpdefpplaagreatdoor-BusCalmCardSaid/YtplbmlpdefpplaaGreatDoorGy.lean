/- The landed package bus, and more. Conditions: as each says. -/
import Derived.Test.YtplbmlpdefpplaaGreatDoorGp
import Derived.Test.YtplbmlpdefpplaaGreatDoorBlO
set_option maxHeartbeats 3200000
set_option maxRecDepth 100000
namespace Go.Proofs.YtplbmlpdefpplaaGreatDoor
set_option linter.unusedVariables false
set_option linter.unusedSimpArgs false
open Go.RowKit
variable {ops:Array Oper} {kns:List Bool} {es:List Ev} {ms ns:List Nd} {l:List Value} {E N R c j k nx t:Nat} {Fs:Nat->Nat->Prop} {D F F' G X Y:Nat->Prop} {P:Nat->Value} {bv v:Value} {w w' w1 w2 wr:World}
def zcm(line:List Nat):List Nat:=line.drop (line.length - 65536)
def zhS(w:World)(bv:Value)(nx:Nat)(line:List Nat):Prop:=∃bits,z04 w bv bits/\bits.length<=65536/\(bits.length < 65536->nx=0)/\nx < 65536/\line=bits.drop nx++bits.take nx
theorem zhS.keep{F:Nat->Prop}{w w':World}{bv:Value}{nx:Nat}{line:List Nat}(h:zhS w bv nx line)(hk:Kp F w w')(hn:∀g,bv.ownBlock=some g->¬F g):zhS w' bv nx line:=by
 obtain⟨bits,h1,h2⟩:=h
 exact⟨bits,h1.keep hk hn,h2⟩
theorem zeW{bits:List Nat}(h:bits.length < 65536)(b:Nat):zcm (bits.drop 0++bits.take 0++[b])=(bits++[b]).drop 0++(bits++[b]).take 0:=by
 have e:bits.drop 0++bits.take 0++[b]=bits++[b]:=by simp
 have e2:(bits++[b]).length - 65536=0:=by rw[List.length_append,List.length_singleton];omega
 rw[e,zcm,e2,List.take_zero,List.append_nil]
theorem zdA{bits:List Nat}(h:bits.length=65536)(hn:nx < 65536)(b:Nat):zcm (bits.drop nx++bits.take nx++[b])=(bits.set nx b).drop ((nx+1)%65536)++(bits.set nx b).take ((nx+1)%65536):=by
 have e0:bits.drop nx=bits[nx]'(by omega)::bits.drop (nx+1):=List.drop_eq_getElem_cons (by omega)
 have e1:zcm (bits.drop nx++bits.take nx++[b])=bits.drop (nx+1)++(bits.take nx++[b]):=by
  unfold zcm
  have hl:(bits.drop nx++bits.take nx++[b]).length - 65536=1:=by simp;omega
  rw[hl,e0,List.cons_append,List.cons_append,List.drop_succ_cons,List.drop_zero,List.append_assoc]
 rw[e1]
 have e2:(bits.set nx b).take (nx+1)=bits.take nx++[b]:=by
  rw[List.take_add_one,List.take_set_of_le (by omega)]
  simp[show nx < bits.length by omega]
 by_cases hx:nx+1 < 65536
 ·rw[Nat.mod_eq_of_lt hx,e2,List.drop_set_of_lt (by omega)]
 ·obtain rfl:nx=65535:=by omega
  have e3:(65535+1)%65536=0:=by decide
  rw[e3,List.drop_zero,List.take_zero,List.append_nil,<- e2,List.drop_of_length_le (by omega),List.nil_append,List.take_of_length_le (by rw[List.length_set];omega)]
theorem Kp.s1(j:Nat)(v:Value):Kp (fun b=>b=R) w (w.setCell ⟨R,j,none⟩ v):=Kp.set (F:=fun b=>b=R) (Eq.refl R)
theorem zco (b o c:Nat) (l:List Nat) (w:World) (h:Bs w (some ⟨b,o,none⟩) c l) (hl:l.length<=1000) :
    Calls Tryz.prog 90 #[.slice (some ⟨b,o,none⟩) l.length c,.int .u8 0] w fun e w'=>(∃z:Int,e = .returned (.int .i64 z)/\(0<=z↔0∈l))/\Nb w w':=by
 have H:=zH h
 have HL:=zH hl
 clear h
 go_enter Tryz.func90,Tryz.ntmps90
 go_wp2
 go_loop [8] (fun ix=>∃k:Nat,k<=l.length/\ix = .int .i64 k/\∀j,j < k->l.getD j 0≠0) (fun ix=>l.length - (intOf ix).toNat)
 case atStart=>exact⟨0,Nat.zero_le _,rfl,fun j hj=>absurd hj (Nat.not_lt_zero j)⟩
 case round =>
  obtain⟨k,hk,rfl,hz⟩:=hrel
  have HZ:=zH hz
  clear hz
  by_cases hlt:k < l.length
  ·have hlt':decide ((k:Int) < (l.length:Int))=true:=decide_eq_true (by omega)
   obtain⟨b',o',e',hc⟩:=H.out.hcells (by omega)
   simp only[Option.some.injEq,Addr.mk.injEq,and_true]at e'
   obtain⟨rfl,rfl⟩:=e'
   have c0:=hc k hlt
   have HX:=zH (show l.getD k 0∈l by rw[show l.getD k 0=l[k] by simp[List.getD,hlt]];exact List.getElem_mem _)
   clear hc
   obtain⟨x,hx⟩:∃x,l.getD k 0=x:=⟨_,rfl⟩
   rw[hx]at c0 HX
   have HE:=zH hx
   clear hx
   by_cases hx0:x=0
   ·subst hx0
    go_wp2
    go_ret
    exact⟨⟨k,rfl,fun _=>HX.out,fun _=>by omega⟩,Nb.rfl⟩
   ·have dx:((0:Int)==(x:Int))=false:=by rw[beq_eq_false_iff_ne];omega
    have HR:=zH (show ∀j,j < k+1->l.getD j 0≠0 from fun j hj=>by
     by_cases e:j=k
     ·subst e
      rw[HE.out]
      exact hx0
     ·exact HZ.out j (by omega))
    clear hx0
    go_wp2
    go_round
    case rel=>exact⟨k+1,by omega,by go_num,HR.out⟩
    case measure=>simp[intOf];omega
  ·have hlt':decide ((k:Int) < (l.length:Int))=false:=decide_eq_false (by omega)
   obtain rfl:k=l.length:=by omega
   go_wp2
   go_ret
   refine⟨⟨-1,rfl,fun q=>by omega,fun q => ?_⟩,Nb.rfl⟩
   obtain⟨j,hj,e⟩:=List.getElem_of_mem q
   have:=HZ.out j hj
   rw[show l.getD j 0=l[j] by simp[List.getD,hj],e]at this
   exact absurd rfl this
theorem z7r (b o c:Nat) (l:List Nat) (w:World) (h:Bs w (some ⟨b,o,none⟩) c l) (hl:l.length<=1000) :
    Calls Tryz.prog 64 #[.slice (some ⟨b,o,none⟩) l.length c,.int .u8 0] w fun e w'=>e = .returned (.bool (decide (0∈l)))/\Nb w w':=by
 have H:=zH (zco b o c l w h hl)
 obtain⟨B,hB⟩:∃B,B=decide (0∈l):=⟨_,rfl⟩
 rw[<- hB]
 have HB:=zH hB
 clear h hB
 go_enter Tryz.func64,Tryz.ntmps64
 go_wp2_with fail
 refine H.out.mono ?_
 rintro e w1 ⟨⟨z,rfl,hz⟩,n1⟩
 have N1:=zH n1
 have he:decide (0<=z)=B:=by rw[HB.out];exact decide_eq_decide.2 hz
 clear hz n1
 go_wp2
 go_ret
 exact⟨rfl,N1.out⟩
theorem ziM(l:List Nat)(hl:∀x∈l,x<=1):l.foldl min 1=if 0∈l then 0 else 1:=by
 have key:∀l:List Nat,(∀x∈l,x<=1)->∀a,a<=1->l.foldl min a=if 0∈l then 0 else a:=by
  intro l
  induction l with
  | nil=>intro _ a _;simp
  | cons x l ih =>
    intro h a ha
    have hx:=h x (by simp)
    rw[List.foldl_cons,ih (fun y hy=>h y (by simp[hy])) _ (by omega)]
    rcases(by omega:x=0\/x=1)with rfl | rfl
    ·simp
    ·rw[show min a 1=a by omega]
     simp
 exact key l hl 1 (Nat.le_refl _)
theorem zeE (b o c:Nat) (l:List Nat) (w:World) (h:Bs w (some ⟨b,o,none⟩) c l) (hl:l.length<=1000) (h1:∀x∈l,x<=1) :
    Calls Tryz.prog 31 #[.slice (some ⟨b,o,none⟩) l.length c] w fun e w'=>e = .returned (.int .u8 (l.foldl min 1:Nat))/\Nb w w':=by
 have H:=zH (z7r b o c l w h hl)
 rw[ziM l h1]
 clear h h1
 by_cases h0:0∈l
 ·rw[if_pos h0]
  rw[decide_eq_true h0]at H
  clear h0
  go_enter Tryz.func31,Tryz.ntmps31
  go_wp2_with fail
  refine H.out.mono ?_
  rintro e w1 ⟨rfl,n1⟩
  have N1:=zH n1
  clear n1
  go_wp2
  go_ret
  exact⟨rfl,N1.out⟩
 ·rw[if_neg h0]
  rw[decide_eq_false h0]at H
  clear h0
  go_enter Tryz.func31,Tryz.ntmps31
  go_wp2_with fail
  refine H.out.mono ?_
  rintro e w1 ⟨rfl,n1⟩
  have N1:=zH n1
  clear n1
  go_wp2
  go_ret
  exact⟨rfl,N1.out⟩
def zkG(w:World)(R:Nat)(nv bv:Value)(line:List Nat)(b:Nat)(w':World):Prop :=
 ∃bv' nx',Blk w' R #[nv,bv',.int .i64 (nx':Nat)] 86/\zhS w' bv' nx' (zcm (line++[b]))/\Kp (fun k=>k=R\/bv.ownBlock=some k) w w'/\∀g,bv'.ownBlock=some g->bv.ownBlock=some g\/w.heap.size<=g
theorem zhH (R:Nat) (nv bv:Value) (nx:Nat) (line:List Nat) (b:Nat) (w:World) (h:Blk w R #[nv,bv,.int .i64 (nx:Nat)] 86) (hl:zhS w bv nx line) (hR:bv.ownBlock≠some R) (hb:b<=1) :
    Calls Tryz.prog 34 #[.pointer (some ⟨R,1,none⟩),.int .u8 (b:Nat)] w fun e w'=>e = .returned (.tuple #[])/\zkG w R nv bv line b w':=by
 obtain⟨bits,ho,hle,h0,hnx,rfl⟩:=hl
 have hRw:=h.lt
 have HO:=zH ho
 have H:=zH h
 have HR:=zH hR
 obtain⟨a,cap,hbv,hbs,hab⟩:=ho.bs
 subst hbv
 by_cases hfull:bits.length < 65536
 ·obtain rfl:=h0 hfull
  have d0:decide ((bits.length:Int) < 65536)=true:=decide_eq_true (by omega)
  have HLN:=zH (zeW hfull b)
  have c1:w.cell? ⟨R,1,none⟩=some (.slice a bits.length cap):=h.cell 1
  have f1:w.frozen? ⟨R,1,none⟩=false:=h.frozen 1
  clear ho h hR h0 hnx hbs hab
  go_enter Tryz.func34,Tryz.ntmps34
  have B1:=zH (show Bs (w.alloc (.cells #[.int .u8 (b:Nat)] 5)) (some ⟨w.heap.size,0,none⟩) 1 [b]from Bs.one w b (by omega) 5)
  go_wp2_with (at_builtin;refine zd _ rfl (.tmp 14) (.tmp 16) rfl _ bits rfl (HO.out.keep (F:=fun _=>False) (Kp.ofNb (Nb.rfl.al _)) (by simp)) (some ⟨w.heap.size,0,none⟩) 1 [b] 1 rfl rfl B1.out (fun q=>by cases q) (by simp;omega) ?_)
  intro v2 w2 ho2 hk2 hf2
  have kk:Kp (fun k=>k=R\/(Value.slice a bits.length cap).ownBlock=some k) w w2:=(Kp.ofNb (F:=fun k=>k=R\/(Value.slice a bits.length cap).ownBlock=some k) (Nb.rfl.al _)).tr hk2 (fun k hk => .inl (.inr hk))
  have hR2:v2.ownBlock≠some R:=fun e=>by
   rcases hf2 R e with q | q
   ·exact HR.out q
   ·omega
  have B2:=zH ((H.out.nb (Nb.rfl.al _)).keep hk2 HR.out)
  have O2:=zH ho2
  have K2:=zH kk
  have F2:=zH (show ∀g,v2.ownBlock=some g->(Value.slice a bits.length cap).ownBlock=some g\/w.heap.size<=g from fun g hg=>(hf2 g hg).imp id (fun q=>by omega))
  have d1:w2.cell? ⟨R,1,none⟩=some (.slice a bits.length cap):=B2.out.cell 1
  have g1:w2.frozen? ⟨R,1,none⟩=false:=B2.out.frozen 1
  obtain⟨a2,cap2,hv2,_⟩:=ho2.bs
  subst hv2
  have HR2:=zH hR2
  clear ho2 hk2 hf2 c1 f1 kk hR2
  go_wp2
  refine bodyPost_ret (v := .tuple #[]) (by simp[results,Tryz.results34,go_sem]) rfl ?_
  rw[show bits.length+1=(bits++[b]).length by simp]
  exact⟨rfl,.slice a2 (bits++[b]).length cap2,0,by simpa using B2.out.set 1 (.slice a2 (bits++[b]).length cap2),⟨bits++[b],O2.out.keep (Kp.s1 1 (.slice a2 (bits++[b]).length cap2)) (fun g hg e=>HR2.out (e ▸ hg)),by simp;omega,fun _=>rfl,by omega,HLN.out⟩,K2.out.tr (Kp.s1 1 _) (fun k hk => .inl (.inl hk)),F2.out⟩
 ·have hlen:bits.length=65536:=by omega
  have d0:decide ((bits.length:Int) < 65536)=false:=decide_eq_false (by omega)
  obtain⟨g,cap',hsh⟩:=ho.shape (by omega)
  cases hsh
  have HLN:=zH (zdA hlen hnx b)
  have c1:w.cell? ⟨R,1,none⟩=some (.slice (some ⟨g,0,none⟩) bits.length cap):=h.cell 1
  have c2:w.cell? ⟨R,2,none⟩=some (.int .i64 (nx:Nat)):=h.cell 2
  have f2:w.frozen? ⟨R,2,none⟩=false:=h.frozen 2
  have cg:=ho.cell nx (by omega)
  have fg:w.frozen? ⟨g,nx,none⟩=false:=ho.frozen rfl nx
  have hgR:g≠R:=fun e=>hR (by rw[e];rfl)
  have HOS:=zH (ho.setByte (g:=g) rfl nx (by omega) b (by omega))
  have EM:=zH (show((nx:Int)+1)%65536=(((nx+1)%65536:Nat):Int) by omega)
  have hlt:nx < bits.length:=by omega
  have HG:=zH hgR
  have hRg:R≠g:=fun e=>hgR e.symm
  have HLE:=zH hlen
  have hlen':((bits.length:Int))<=65536:=by omega
  clear ho h hR h0 hbs hab hlen
  go_enter Tryz.func34,Tryz.ntmps34
  go_wp2
  go_region
  obtain⟨w2,hw2⟩:∃w2,w2=(w.setCell ⟨g,nx,none⟩ (.int .u8 (b:Nat))).drew:=⟨_,rfl⟩
  rw[<- hw2]
  have k2:Kp (fun k=>k=g) w w2:=by
   rw[hw2]
   exact(Kp.s1 nx _).tr (Kp.ofNb (F:=fun k=>k=g) (Nb.drewN _ 1)) (fun k hk => .inl hk)
  have o2:z04 w2 (.slice (some ⟨g,0,none⟩) bits.length cap) (bits.set nx b):=by
   rw[hw2]
   exact HOS.out.drewN 1
  have B2:=zH (H.out.keep k2 hRg)
  have O2:=zH o2
  have K2:=zH k2
  have d2:w2.cell? ⟨R,2,none⟩=some (.int .i64 (nx:Nat)):=B2.out.cell 2
  have e2:w2.frozen? ⟨R,2,none⟩=false:=B2.out.frozen 2
  clear hw2 k2 o2 c1 c2 f2 cg fg
  go_wp2
  go_end0
  rw[EM.out]
  have kR:Kp (fun k=>k=R) w2 (w2.setCell ⟨R,2,none⟩ (.int .i64 (((nx+1)%65536:Nat):Int))):=Kp.s1 2 _
  refine⟨rfl,.slice (some ⟨g,0,none⟩) bits.length cap,(nx+1)%65536,by simpa using B2.out.set 2 (.int .i64 (((nx+1)%65536:Nat):Int)),⟨bits.set nx b,O2.out.keep kR (fun k hk e=>HR.out (e ▸ hk)),by rw[List.length_set];omega,fun q=>by rw[List.length_set]at q;omega,Nat.mod_lt _ (by decide),HLN.out⟩,((K2.out.mono (F':=fun k=>k=R\/(Value.slice (some ⟨g,0,none⟩) bits.length cap).ownBlock=some k) (fun k _ hk => .inr (by rw[hk];rfl))).tr kR (fun k hk => .inl (.inl hk))),fun k hk => .inl hk⟩
theorem za6 (b o:Nat) (a1 a2:Option Addr) (c1 c2:Nat) (l1 l2:List Nat) (w:World) (d1:w.cell? ⟨b,o,none⟩=some (.slice a1 l1.length c1)) (d2:w.cell? ⟨b,o+1,none⟩=some (.slice a2 l2.length c2))
    (h1:Bs w a1 c1 l1) (h2:Bs w a2 c2 l2) (n1:a1=none->c1=0) (n2:a2=none->c2=0) (h0:0 < (l1++l2).length) (hl:(l1++l2).length<=1000000) :
    Calls Tryz.prog 46 #[.slice (some ⟨b,o,none⟩) 2 2] w fun e w'=>(∃a c,e = .returned (.slice a (l1++l2).length c)/\zf w w' (.slice a (l1++l2).length c) (l1++l2))/\Nb w w':=by
 have hb:=World.block_lt_of_cell? _ _ d1
 have e:z4U (fun k=>match k with | 0=>l1 | _=>l2) 2=l1++l2:=by simp[z4U]
 rw[<- e]at h0 hl ⊢
 refine z5b b o 2 (fun k=>match k with | 0=>a1 | _=>a2) (fun k=>match k with | 0=>c1 | _=>c2) _ w ?_ ?_ ?_ h0 hl (by omega) hb
 all_goals
  intro k hk
  rcases(by omega:k=0\/k=1)with rfl | rfl
  all_goals assumption
theorem zgO (R:Nat) (nv bv:Value) (nx:Nat) (line:List Nat) (w:World) (h:Blk w R #[nv,bv,.int .i64 (nx:Nat)] 86) (hl:zhS w bv nx line) (h0:0 < line.length) :
    Calls Tryz.prog 24 #[.pointer (some ⟨R,1,none⟩)] w fun e w'=>(∃a c,e = .returned (.slice a line.length c)/\zf w w' (.slice a line.length c) line)/\Nb w w':=by
 obtain⟨bits,ho,hle,hz,hnx,rfl⟩:=hl
 have hlen:(bits.drop nx++bits.take nx).length<=1000000:=by rw[List.length_append,List.length_drop,List.length_take];omega
 have hb0:0 < bits.length:=by
  rw[List.length_append,List.length_drop,List.length_take]at h0
  omega
 have hnl:nx<=bits.length:=by
  by_cases e:bits.length < 65536
  ·rw[hz e];omega
  ·omega
 obtain⟨g,cap,rfl⟩:=ho.shape hb0
 have hbs:=ho.asBs.1
 have hcap:=hbs.hcap
 have hmx:=hbs.hmax
 have hcu:=z38 (some ⟨g,0,none⟩) bits.length cap nx hnl
 have hch:=zbc (some ⟨g,0,none⟩) bits.length cap nx (by omega)
 obtain⟨a1,ha1⟩:∃a1,a1=z7K (some ⟨g,0,none⟩) cap nx:=⟨_,rfl⟩
 have hB1:=hbs.cutL nx hnl
 rw[<- ha1]at hcu hB1
 have hB2:=hbs.head nx
 have hne:a1=none->cap - nx=0:=by
  rw[ha1]
  unfold z7K
  intro e
  by_cases q:cap=nx
  ·omega
  ·rw[if_neg q]at e
   cases e
 have e1:(bits.drop nx).length=bits.length - nx:=List.length_drop
 have e2:(bits.take nx).length=nx:=by rw[List.length_take];omega
 have hcc:=fun wd (D:Blk wd w.heap.size #[.slice a1 (bits.length - nx) (cap - nx),.slice (some ⟨g,0,none⟩) nx cap] 35) (n:Nb w wd) =>
  za6 w.heap.size 0 a1 (some ⟨g,0,none⟩) (cap - nx) cap (bits.drop nx) (bits.take nx) wd (by rw[e1];exact D.cell 0) (by rw[e2];exact D.cell 1) (hB1.below n) (hB2.below n) hne (by simp) h0 hlen
 generalize bits.drop nx++bits.take nx=line at hcc h0 hlen ⊢
 have HCC:=zH hcc
 have ND:=zH (show Nb w (w.alloc (.cells #[.slice a1 (bits.length - nx) (cap - nx),.slice (some ⟨g,0,none⟩) nx cap] 35)).drew from(Nb.rfl.al _).tr (Nb.drewN _ 1))
 have D:=zH (show Blk (w.alloc (.cells #[.slice a1 (bits.length - nx) (cap - nx),.slice (some ⟨g,0,none⟩) nx cap] 35)).drew w.heap.size #[.slice a1 (bits.length - nx) (cap - nx),.slice (some ⟨g,0,none⟩) nx cap] 35 from(Blk.new w _ _).nb (Nb.drewN _ 1))
 have H:=zH h
 have hRw:=h.lt
 have c1:w.cell? ⟨R,1,none⟩=some (.slice (some ⟨g,0,none⟩) bits.length cap):=h.cell 1
 have c2:w.cell? ⟨R,2,none⟩=some (.int .i64 (nx:Nat)):=h.cell 2
 clear ho hbs hB1 hB2 hcc h hle hz hb0 ha1 hne e1 e2 h0 hlen hcap
 go_enter Tryz.func24,Tryz.ntmps24
 go_wp2_with fail
 have NB:RowKit.Hid (Nb w w.drew):=zH (show Nb w w.drew from Nb.drewN w 1)
 go_region_held3 (fun w'=>w'.cell? ⟨R,1,none⟩=some (.slice (some ⟨g,0,none⟩) bits.length cap)/\w'.cell? ⟨R,2,none⟩=some (.int .i64 (nx:Nat))) (first | go_keep | exact⟨(H.out.nb NB.out).cell 1,(H.out.nb NB.out).cell 2⟩)
  (first
   | (go_at_call 46
      refine(HCC.out _ D.out ND.out).mono ?_
      rintro e w8 ⟨⟨a8,c8,rfl,f8⟩,n8⟩
      have F8:=zH (show zf w w8 _ _ from⟨f8.1,fun g hg=>Nat.le_trans ND.out.size (f8.2 g hg)⟩)
      have NB:=zH (ND.out.tr n8)
      clear f8 n8))
 go_wp2
 go_ret
 exact⟨⟨_,_,rfl,F8.out⟩,NB.out⟩
theorem zjt:(Tryz.prog.info? 81).map (fun i=>(i.zero,i.size,i.bytes))=some (some (.pointer none),1,8):=by kernel_rfl
def z2a(w:World)(v:Value)(l:List Value):Prop:=w.ownsRow 0 81 1 v l.length l
theorem z2a.nil(w:World):z2a w (.slice none 0 0) []:=World.ownsRow_nil _ _ _ _
theorem z2a.keep(h:z2a w v l)(hk:Kp F w w')(hn:∀g,v.ownBlock=some g->¬F g):z2a w' v l:=by
 obtain⟨h1,h2⟩:=h
 refine⟨h1,?_⟩
 rcases h2 with h2 | ⟨g,cap,cur,rfl,hb,hg,r⟩
 ·exact .inl h2
 ·exact .inr ⟨g,cap,cur,rfl,hb,(hk.block g (Array.getElem?_eq_some_iff.1 hg).1 (hn g rfl)).trans hg,r⟩
theorem z2a.nb(h:z2a w v l)(hb:Nb w w'):z2a w' v l:=h.keep (F:=fun _=>False) (Kp.ofNb hb) (by simp)
theorem z2a.lt{w:World}{v:Value}{l:List Value}(h:z2a w v l){g:Nat}(hg:v.ownBlock=some g):g < w.heap.size:=(World.ownsRow.lt h g hg).2
theorem z2a.shape(h:z2a w v l):∃a c,v = .slice a l.length c:=by
 rcases h.2 with ⟨rfl,h2⟩ | ⟨g,cap,cur,rfl,_⟩
 ·exact⟨none,0,by rw[h2]⟩
 ·exact⟨_,cap,rfl⟩
theorem z2a.some(h:z2a w v l)(hl:0 < l.length):∃g cap,v = .slice (some ⟨g,0,none⟩) l.length cap/\l.length<=cap/\cap<=maxLen/\∀j u,l[j]? = some u->w.cell? ⟨g,j,none⟩=some u:=by
 rcases h.2 with ⟨rfl,h2⟩ | ⟨g,cap,cur,rfl,hb,hg,hn,hm,hs,ht⟩
 ·omega
 ·refine⟨g,cap,rfl,hn,hm,fun j u hu => ?_⟩
  have:=World.ownsRow.cells h (g:=g) rfl j u hu
  rwa[Addr.add_lit,Nat.zero_add]at this
theorem zbD (w:World) {o:Oper} {a:Act} {K:Act->World->Prop} {Q:Exit->Act->World->Prop} {E:Prop}
    (hg:o.guard=none) (s x:Operand) (hop:o.op=Op.call { callee:=Callee.builtin Builtin.append,args:=#[s,x],argTypes:=#[82,82] })
    (v:Value) (l:List Value) (hs:a.eval s=v) (hown:z2a w v l)
    (b:Nat) (p:Value) (hx:a.eval x = .slice (some ⟨b,0,none⟩) 1 1) (hb:w.cell? ⟨b,0,none⟩=some p) (hp:p.oneCell'=true)
    (b1:l.length+1<=1000000)
    (hK:∀v' w',z2a w' v' (l++[p])->Kp (fun k=>v.ownBlock=some k) w w'->(∀g,v'.ownBlock=some g->v.ownBlock=some g\/w.heap.size<=g)->K (a.put o.dst v') w') :
    if Region.wanted o (yielded ops a.tmps)=true then Oper.wp Tryz.prog o a w K Q else E:=by
 obtain⟨i0,hi,hz0,hz1,hz2⟩:=info_parts zjt
 have hc:∀j u,[p][j]? = some u->w.cell? ((⟨b,0,none⟩:Addr).add j)=some u:=by
  intro j u hu
  match j,hu with
  | 0,hu =>
    simp at hu
    subst hu
    simpa [Addr.add]using hb
  | j+1,hu=>simp at hu
 have h1c:∀u∈[p],u.oneCell'=true:=by
  intro u hu
  simp at hu
  subst hu
  exact hp
 have hnew:∀v' w',w'.ownsRow w.heap.size 81 1 v' (l.length+1) (l++[p])->w.grownBy w' none->K (a.put o.dst v') w':=fun v' w' ho hgr =>
  hK v' w' (by simpa [z2a]using z20 ho) (Kp.grown hgr (by simp)) (fun g hg => .inr (ho.lt g hg).1)
 rcases hown.2 with ⟨rfl,h2⟩ | ⟨g,cap,cur,rfl,hbg,hgg,hnc,hcm,hcs,htake⟩
 ·have hl:l=[]:=List.length_eq_zero_iff.1 h2
  subst hl
  exact step_append_grows hg s x 82 hop 81 i0 (.pointer none) 1 8 Tryz.underlying82 hi hz0 hz1 hz2 rfl (by decide) none 0 0 [] hs (fun _=>⟨rfl,rfl⟩) (by simp) (by simp) ⟨b,0,none⟩ 1 1 _ hx rfl hc h1c (by omega) (by unfold maxLen;omega) (by omega) (by simpa using hnew)
 ·by_cases hroom:l.length+1<=cap
  ·have hw:Region.wanted o (yielded ops a.tmps)=true:=by simp[Region.wanted,hg]
   rw[if_pos hw]
   obtain⟨w',hrun,r1,r2⟩:=run_append_fits (P:=Tryz.prog) w 0 82 o.type 81 i0 1 Tryz.underlying82 hi hz1 g l.length cap _ hown ⟨b,0,none⟩ 1 1 _ rfl hc h1c hroom
   unfold Oper.wp
   simp[execOp,hop,resolve,invoke,builtin,hs,hx,hrun,Result.andThen]
   exact hK _ _ (by simpa [z2a]using r1) (Kp.grown r2 (fun k hk=>by simpa [Value.ownBlock]using hk)) (fun k hk => .inl (by simpa [Value.ownBlock]using hk))
  ·exact step_append_grows hg s x 82 hop 81 i0 (.pointer none) 1 8 Tryz.underlying82 hi hz0 hz1 hz2 rfl (by decide) (some ⟨g,0,none⟩) l.length cap _ hs (by simp) (by simp) (fun b hb=>by cases hb;exact World.ownsRow.cells hown (g:=g) rfl) ⟨b,0,none⟩ 1 1 _ hx rfl hc h1c (by omega) (by unfold maxLen;omega) (by omega) hnew
structure z3i(w:World)(N:Nat)(ns:List Nd)(P:Nat->Value)(Fs:Nat->Nat->Prop):Prop where
 cell:∀j,j < ns.length->w.cell? ⟨N,j,none⟩=some (P j)
 has:∀j,j < ns.length->z0N w (P j) (ns.getD j dN) (Fs j)
 dis:∀i j,i < ns.length->j < ns.length->i≠j->∀k,Fs i k->¬Fs j k
 own:∀j k,j < ns.length->Fs j k->k≠N
theorem z6W(hk:Kp F w w'){b o:Nat}(h:w.cell? ⟨b,o,none⟩=some v)(hn:¬F b):w'.cell? ⟨b,o,none⟩=some v:=by
 have e:=hk.block b (World.block_lt_of_cell? _ _ h) hn
 rw[<- h]
 simp only[World.cell?,e]
theorem z3i.keep(h:z3i w N ns P Fs)(hk:Kp G w w')(hN:¬G N)(hn:∀j k,j < ns.length->Fs j k->¬G k):z3i w' N ns P Fs :=
 ⟨fun j hj=>z6W hk (h.cell j hj) hN,fun j hj=>z0G (h.has j hj) hk (hn j · hj),h.dis,h.own⟩
theorem z3i.nb(h:z3i w N ns P Fs)(hb:Nb w w'):z3i w' N ns P Fs :=
 h.keep (G:=fun _=>False) (Kp.ofNb hb) (fun q=>q) (fun _ _ _ _ q=>q)
theorem z3i.lt(h:z3i w N ns P Fs)(hj:j < ns.length)(hk:Fs j k):k < w.heap.size:=z34 (h.has j hj) k hk
theorem zgQ(ns:List Nd)(i:Nat)(m:Nd)(hj:j < ns.length):(ns.set i m).getD j dN=if j=i then m else ns.getD j dN:=by
 by_cases hij:j=i
 ·subst hij
  rw[if_pos rfl]
  simp[List.getD,hj]
 ·rw[if_neg hij]
  simp[List.getD,List.getElem?_set_ne (fun e=>hij e.symm)]
theorem z3i.turn {m:Nd} (h:z3i w N ns P Fs) (i:Nat) (hi:i < ns.length) (g1:z0N w2 (P i) m F') (g2:Kp (Fs i) w w2) (g3:∀k,F' k->Fs i k\/w.heap.size<=k) :
    z3i w2 N (ns.set i m) P (fun j=>if j=i then F' else Fs j):=by
 have hN:=World.block_lt_of_cell? _ _ (h.cell i hi)
 simp only at hN
 have nw:∀j k,j < ns.length->j≠i->F' k->¬Fs j k:=fun j k hj hji hk hf=>by
  rcases g3 k hk with q | q
  ·exact h.dis i j hi hj (fun e=>hji e.symm) k q hf
  ·have:=h.lt hj hf;omega
 refine⟨fun j hj => ?_,fun j hj => ?_,fun a b ha hb hab k hk hf => ?_,fun j k hj hk => ?_⟩
 ·rw[List.length_set]at hj
  exact z6W g2 (h.cell j hj) (fun q=>h.own i N hi q rfl)
 ·rw[List.length_set]at hj
  rw[zgQ _ _ _ hj]
  by_cases hji:j=i
  ·subst hji
   simp only[if_pos]
   exact g1
  ·simp only[if_neg hji]
   exact z0G (h.has j hj) g2 (fun k q r=>h.dis j i hj hi hji k q r)
 ·rw[List.length_set]at ha hb
  by_cases ha1:a=i
  ·rw[if_pos ha1]at hk
   rw[if_neg (fun q=>hab (ha1.trans q.symm))]at hf
   exact nw b k hb (fun q=>hab (ha1.trans q.symm)) hk hf
  ·rw[if_neg ha1]at hk
   by_cases hb1:b=i
   ·rw[if_pos hb1]at hf
    exact nw a k ha ha1 hf hk
   ·rw[if_neg hb1]at hf
    exact h.dis a b ha hb hab k hk hf
 ·rw[List.length_set]at hj
  by_cases hji:j=i
  ·rw[if_pos hji]at hk
   rcases g3 k hk with q | q
   ·exact h.own i k hi q
   ·omega
  ·rw[if_neg hji]at hk
   exact h.own j k hj hk
structure zcQ(w:World)(R N cap:Nat)(bv:Value)(nx:Nat)(P:Nat->Value)(Fs:Nat->Nat->Prop)(ns:List Nd)(line:List Nat)(F:Nat->Prop):Prop where
 blk:Blk w R #[.slice (some ⟨N,0,none⟩) ns.length cap,bv,.int .i64 (nx:Nat)] 86
 nds:z3i w N ns P Fs
 ln:zhS w bv nx line
 fR:F R
 fN:F N
 rn:R≠N
 fs:∀j k,j < ns.length->Fs j k->F k/\k≠R
 fb:∀g,bv.ownBlock=some g->F g/\g≠R/\g≠N/\∀j,j < ns.length->¬Fs j g
 lt:∀k,F k->k < w.heap.size
 n1:1<=ns.length
 n16:ns.length<=16
 hcap:ns.length<=cap/\cap<=maxLen
 tb:∀k,F k->k≠1/\k≠0
 tl:1 < w.heap.size/\0 < w.heap.size
def z2X(w:World)(v:Value)(ns:List Nd)(line:List Nat)(F:Nat->Prop):Prop:=∃R N cap bv nx P Fs,v = .pointer (some ⟨R,0,none⟩)/\zcQ w R N cap bv nx P Fs ns line F
theorem zcQ.keep{w w':World}{R N cap:Nat}{bv:Value}{nx:Nat}{P:Nat->Value}{Fs:Nat->Nat->Prop}{ns:List Nd}{line:List Nat}{F G:Nat->Prop}(h:zcQ w R N cap bv nx P Fs ns line F)(hk:Kp G w w')(hn:∀k,F k->¬G k):zcQ w' R N cap bv nx P Fs ns line F :=
 ⟨h.blk.keep hk (hn R h.fR),h.nds.keep hk (hn N h.fN) (fun j k hj hf=>hn k (h.fs j k hj hf).1),h.ln.keep hk (fun g hg=>hn g (h.fb g hg).1),h.fR,h.fN,h.rn,h.fs,h.fb,fun k hk'=>Nat.lt_of_lt_of_le (h.lt k hk') hk.size,h.n1,h.n16,h.hcap,h.tb,⟨Nat.lt_of_lt_of_le h.tl.1 hk.size,Nat.lt_of_lt_of_le h.tl.2 hk.size⟩⟩
theorem zcQ.nb{cap:Nat}{line:List Nat}(h:zcQ w R N cap bv nx P Fs ns line F)(hb:Nb w w'):zcQ w' R N cap bv nx P Fs ns line F :=
 h.keep (G:=fun _=>False) (Kp.ofNb hb) (fun _ _ q=>q)
theorem z57{line:List Nat}(h:z2X w v ns line F)(hk:Kp G w w')(hn:∀k,F k->¬G k):z2X w' v ns line F:=by
 obtain⟨R,N,cap,bv,nx,P,Fs,h1,h2⟩:=h
 exact⟨R,N,cap,bv,nx,P,Fs,h1,h2.keep hk hn⟩
theorem zi5{line:List Nat}(h:z2X w v ns line F):∀k,F k->k < w.heap.size:=by
 obtain⟨R,N,cap,bv,nx,P,Fs,h1,h2⟩:=h
 exact h2.lt
theorem zcQ.turn {w w2:World} {R N cap:Nat} {bv:Value} {nx:Nat} {P:Nat->Value} {Fs:Nat->Nat->Prop} {ns:List Nd} {line:List Nat} {F F':Nat->Prop} {m:Nd} (h:zcQ w R N cap bv nx P Fs ns line F) (i:Nat) (hi:i < ns.length) (g1:z0N w2 (P i) m F') (g2:Kp (Fs i) w w2) (g3:∀k,F' k->Fs i k\/w.heap.size<=k) :
    zcQ w2 R N cap bv nx P (fun j=>if j=i then F' else Fs j) (ns.set i m) line (fun k=>F k\/F' k):=by
 have hRlt:=h.lt R h.fR
 have hne:∀k,F' k->¬F k->w.heap.size<=k:=fun k q r=>(g3 k q).elim (fun s=>absurd (h.fs i k hi s).1 r) id
 refine⟨?_,h.nds.turn i hi g1 g2 g3,h.ln.keep g2 (fun g hg q=>(h.fb g hg).2.2.2 i hi q),.inl h.fR,.inl h.fN,h.rn,fun j k hj hk => ?_,fun g hg => ?_,fun k hk => ?_,by rw[List.length_set];exact h.n1,by rw[List.length_set];exact h.n16,by rw[List.length_set];exact h.hcap,fun k hk => ?_,⟨Nat.lt_of_lt_of_le h.tl.1 g2.size,Nat.lt_of_lt_of_le h.tl.2 g2.size⟩⟩
 ·rw[List.length_set]
  exact h.blk.keep g2 (fun q=>(h.fs i R hi q).2 rfl)
 ·rw[List.length_set]at hj
  by_cases hji:j=i
  ·rw[if_pos hji]at hk
   refine⟨.inr hk,?_⟩
   rcases g3 k hk with q | q
   ·exact(h.fs i k hi q).2
   ·omega
  ·rw[if_neg hji]at hk
   exact⟨.inl (h.fs j k hj hk).1,(h.fs j k hj hk).2⟩
 ·obtain⟨q1,q2,q3,q4⟩:=h.fb g hg
  have hg2:=h.lt g q1
  refine⟨.inl q1,q2,q3,fun j hj hk => ?_⟩
  rw[List.length_set]at hj
  by_cases hji:j=i
  ·rw[if_pos hji]at hk
   rcases g3 g hk with r | r
   ·exact q4 i hi r
   ·omega
  ·rw[if_neg hji]at hk
   exact q4 j hj hk
 ·rcases hk with q | q
  ·exact Nat.lt_of_lt_of_le (h.lt k q) g2.size
  ·exact z34 g1 k q
 ·rcases hk with q | q
  ·exact h.tb k q
  ·rcases g3 k q with r | r
   ·exact h.tb k (h.fs i k hi r).1
   ·have:=h.tl
    exact⟨by omega,by omega⟩
theorem zi2 (R N cap:Nat) (bv:Value) (nx:Nat) (P:Nat->Value) (Fs:Nat->Nat->Prop) (ns:List Nd) (line:List Nat) (F:Nat->Prop) (i:Nat) (w:World) (h:zcQ w R N cap bv nx P Fs ns line F) (hi:i < ns.length) :
    Calls Tryz.prog 29 #[.pointer (some ⟨R,0,none⟩),.int .i64 (i:Nat)] w fun e w'=>e = .returned (.tuple #[P i,.int .i64 0])/\Nb w w':=by
 have c0:w.cell? ⟨R,0,none⟩=some (.slice (some ⟨N,0,none⟩) ns.length cap):=h.blk.cell 0
 have cN:=h.nds.cell i hi
 have hn:=h.n16
 have d1:decide ((i:Int) < 0)=false:=decide_eq_false (by omega)
 have d2:decide ((ns.length:Int)<=(i:Int))=false:=decide_eq_false (by omega)
 generalize P i=p at cN ⊢
 clear h
 go_enter Tryz.func29,Tryz.ntmps29
 go_wp2
 go_ret2
 exact⟨rfl,Nb.rfl⟩
theorem zdF:∀args w,(callFunc 23 args).run Tryz.prog w = .ok (.enter 23 args) w:=hcf _ _ Tryz.func23 (by rfl) (by decide +kernel)
theorem zir:∀args w,(callFunc 33 args).run Tryz.prog w = .ok (.enter 33 args) w:=hcf _ _ Tryz.func33 (by rfl) (by decide +kernel)
theorem zgt:∀args w,(callFunc 67 args).run Tryz.prog w = .ok (.enter 67 args) w:=hcf _ _ Tryz.func67 (by rfl) (by decide +kernel)
theorem zbG (R N cap:Nat) (bv:Value) (nx:Nat) (P:Nat->Value) (Fs:Nat->Nat->Prop) (ns:List Nd) (line:List Nat) (F:Nat->Prop) (i:Nat) (w:World) (M:zcQ w R N cap bv nx P Fs ns line F) (hO:z26 ns) (hB:z0i w) (hi:i < ns.length) :
    Calls Tryz.prog 22 #[.pointer (some ⟨R,0,none⟩),.int .i64 (i:Nat),.func (.func 23) #[] #[]] w fun e w'=>e = .returned (.tuple #[stV (ns.getD i dN),.int .i64 0])/\Nb w w':=by
 have hcf:=zdF
 obtain⟨w0,hw0⟩:∃w0,w0=w.alloc (.cells #[.int .i64 0,.int .i64 0,.int .i64 0,.int .i64 0,.bool false,.bool false] 47):=⟨_,rfl⟩
 have n0:Nb w w0:=by rw[hw0];exact Nb.rfl.al _
 have X0:=zH (show Blk w0 w.heap.size #[.int .i64 0,.int .i64 0,.int .i64 0,.int .i64 0,.bool false,.bool false] 47 by rw[hw0];exact Blk.new _ _ _)
 have HA:=zH (zi2 R N cap bv nx P Fs ns line F i w0 (M.nb n0) hi)
 have HC:=zH (fun w' (k:Nb w0 w')=>z9n (P i) (ns.getD i dN) (Fs i) w' (((M.nb n0).nb k).nds.has i hi) (hO i hi) (hB.below (n0.tr k)))
 generalize P i=p at HA HC
 unfold stV at HC ⊢
 generalize ns.getD i dN=m at HC ⊢
 have N0:=zH n0
 have HW0:=zH hw0
 clear M hO hB hw0 n0
 go_enter Tryz.func22,Tryz.ntmps22
 go_wp2_with fail
 rw[<- HW0.out]
 refine HA.out.mono ?_
 rintro e w1 ⟨rfl,n1⟩
 have N1:=zH n1
 clear n1 HA
 go_wp2_with fail
 refine(HC.out _ N1.out).mono ?_
 rintro e w2 ⟨rfl,n2⟩
 have X2:=zH ((X0.out.nb N1.out).nb n2)
 have N2:=zH ((N0.out.tr N1.out).tr n2)
 clear n2 HC
 go_wp2_with (refine wpList_store_row (by rfl) _ _ _ (by rfl) _ _ (by rfl) (by rfl) _ _ X2.out (by kernel_rfl) (by rfl) (by simp[Value.oneCell']) ?_)
 have hb:=Blk.row X2.out #[.int .i64 (m.ph:Nat),.int .i64 (m.count:Nat),.int .i64 m.fa.T,.int .i64 m.fa.R,.bool m.fa.O,.bool m.has]
 have kq:=Kp.row w2 w.heap.size #[.int .i64 (m.ph:Nat),.int .i64 (m.count:Nat),.int .i64 m.fa.T,.int .i64 m.fa.R,.bool m.fa.O,.bool m.has]
 change bodyPost _ _ _ _ _ (World.setRow w2 w.heap.size #[.int .i64 (m.ph:Nat),.int .i64 (m.count:Nat),.int .i64 m.fa.T,.int .i64 m.fa.R,.bool m.fa.O,.bool m.has])
 generalize World.setRow w2 w.heap.size #[.int .i64 (m.ph:Nat),.int .i64 (m.count:Nat),.int .i64 m.fa.T,.int .i64 m.fa.R,.bool m.fa.O,.bool m.has]=WW at hb kq ⊢
 obtain⟨e0,e1,e2,e3,e4,e5⟩:=(⟨hb.cell 0,hb.cell 1,hb.cell 2,hb.cell 3,hb.cell 4,hb.cell 5⟩:WW.cell? ⟨w.heap.size,0,none⟩=some (.int .i64 (m.ph:Nat))/\WW.cell? ⟨w.heap.size,1,none⟩=some (.int .i64 (m.count:Nat))/\WW.cell? ⟨w.heap.size,2,none⟩=some (.int .i64 m.fa.T)/\WW.cell? ⟨w.heap.size,3,none⟩=some (.int .i64 m.fa.R)/\WW.cell? ⟨w.heap.size,4,none⟩=some (.bool m.fa.O)/\WW.cell? ⟨w.heap.size,5,none⟩=some (.bool m.has))
 exact bodyPost_ret (v := .tuple #[.agg #[.int .i64 (m.ph:Nat),.int .i64 (m.count:Nat),.int .i64 m.fa.T,.int .i64 m.fa.R,.bool m.fa.O,.bool m.has],.int .i64 0]) (by simp[results,Tryz.results22,go_sem,e0,e1,e2,e3,e4,e5]) rfl ⟨rfl,N2.out.trans (kq.toBelow N2.out.size (fun k hk=>by omega))⟩
theorem zcF (v:Value) (ns:List Nd) (line:List Nat) (F:Nat->Prop) (i:Nat) (w:World) (h:z2X w v ns line F) (hO:z26 ns) (hB:z0i w) (hi:i < ns.length) :
    Calls Tryz.prog 10 #[v,.int .i64 (i:Nat)] w fun e w'=>e = .returned (.tuple #[stV (ns.getD i dN),.int .i64 0])/\Nb w w':=by
 obtain⟨R,N,cap,bv,nx,P,Fs,rfl,M⟩:=h
 obtain⟨w0,hw0⟩:∃w0,w0=w.alloc (.cells #[.int .i64 0,.int .i64 0,.int .i64 0,.int .i64 0,.bool false,.bool false] 47):=⟨_,rfl⟩
 have n0:Nb w w0:=by rw[hw0];exact Nb.rfl.al _
 have X0:=zH (show Blk w0 w.heap.size #[.int .i64 0,.int .i64 0,.int .i64 0,.int .i64 0,.bool false,.bool false] 47 by rw[hw0];exact Blk.new _ _ _)
 have HA:=zH (zbG R N cap bv nx P Fs ns line F i w0 (M.nb n0) hO (hB.below n0) hi)
 unfold stV at HA ⊢
 generalize ns.getD i dN=m at HA ⊢
 have N0:=zH n0
 have HW0:=zH hw0
 clear M hO hB hw0 n0
 go_enter Tryz.func10,Tryz.ntmps10
 go_wp2_with fail
 rw[<- HW0.out]
 refine HA.out.mono ?_
 rintro e w2 ⟨rfl,n2⟩
 have X2:=zH (X0.out.nb n2)
 have N2:=zH (N0.out.tr n2)
 clear n2 HA
 go_wp2_with (refine wpList_store_row (by rfl) _ _ _ (by rfl) _ _ (by rfl) (by rfl) _ _ X2.out (by kernel_rfl) (by rfl) (by simp[Value.oneCell']) ?_)
 have hb:=Blk.row X2.out #[.int .i64 (m.ph:Nat),.int .i64 (m.count:Nat),.int .i64 m.fa.T,.int .i64 m.fa.R,.bool m.fa.O,.bool m.has]
 have kq:=Kp.row w2 w.heap.size #[.int .i64 (m.ph:Nat),.int .i64 (m.count:Nat),.int .i64 m.fa.T,.int .i64 m.fa.R,.bool m.fa.O,.bool m.has]
 change bodyPost _ _ _ _ _ (World.setRow w2 w.heap.size #[.int .i64 (m.ph:Nat),.int .i64 (m.count:Nat),.int .i64 m.fa.T,.int .i64 m.fa.R,.bool m.fa.O,.bool m.has])
 generalize World.setRow w2 w.heap.size #[.int .i64 (m.ph:Nat),.int .i64 (m.count:Nat),.int .i64 m.fa.T,.int .i64 m.fa.R,.bool m.fa.O,.bool m.has]=WW at hb kq ⊢
 obtain⟨e0,e1,e2,e3,e4,e5⟩:=(⟨hb.cell 0,hb.cell 1,hb.cell 2,hb.cell 3,hb.cell 4,hb.cell 5⟩:WW.cell? ⟨w.heap.size,0,none⟩=some (.int .i64 (m.ph:Nat))/\WW.cell? ⟨w.heap.size,1,none⟩=some (.int .i64 (m.count:Nat))/\WW.cell? ⟨w.heap.size,2,none⟩=some (.int .i64 m.fa.T)/\WW.cell? ⟨w.heap.size,3,none⟩=some (.int .i64 m.fa.R)/\WW.cell? ⟨w.heap.size,4,none⟩=some (.bool m.fa.O)/\WW.cell? ⟨w.heap.size,5,none⟩=some (.bool m.has))
 exact bodyPost_ret (v := .tuple #[.agg #[.int .i64 (m.ph:Nat),.int .i64 (m.count:Nat),.int .i64 m.fa.T,.int .i64 m.fa.R,.bool m.fa.O,.bool m.has],.int .i64 0]) (by simp[results,Tryz.results10,go_sem,e0,e1,e2,e3,e4,e5]) rfl ⟨rfl,N2.out.trans (kq.toBelow N2.out.size (fun k hk=>by omega))⟩
theorem zeH (v:Value) (ns:List Nd) (line:List Nat) (F:Nat->Prop) (w:World) (h:z2X w v ns line F) (h0:0 < line.length) :
    Calls Tryz.prog 11 #[v] w fun e w'=>∃a c,e = .returned (.slice a line.length c)/\Bs w' a c line/\(∀b o t,a=some ⟨b,o,t⟩->w.heap.size<=b)/\Nb w w':=by
 obtain⟨R,N,cap,bv,nx,P,Fs,rfl,M⟩:=h
 have HL:=zH (zgO R _ bv nx line w M.blk M.ln h0)
 clear M
 go_enter Tryz.func11,Tryz.ntmps11
 go_wp2_with fail
 refine HL.out.mono ?_
 rintro e w1 ⟨⟨a,c,rfl,f1⟩,n1⟩
 have F1:=zH f1
 have N1:=zH n1
 clear f1 n1 HL
 go_wp2
 go_ret
 refine⟨a,c,rfl,F1.out.bs.1,fun b o t e => ?_,N1.out⟩
 obtain⟨a',c',hv,_,hab⟩:=F1.out.1.bs
 simp only[Value.slice.injEq,true_and]at hv
 obtain⟨rfl,rfl⟩:=hv
 exact F1.out.2 b (hab b o t e)
def zcq(ns:List Nd)(k:Nat):List Nat:=(List.range ns.length).map fun j=>if j < k then(ns.getD j dN).out else 0
theorem zaG(ns:List Nd)(k:Nat):(zcq ns k).length=ns.length:=by simp[zcq]
theorem zfH(ns:List Nd):zcq ns 0=List.replicate ns.length 0:=by
 apply List.ext_getElem
 ·simp[zcq]
 ·intro i h1 h2
  simp[zcq]
theorem zfD(ns:List Nd)(h:k < ns.length):(zcq ns k).set k (ns.getD k dN).out=zcq ns (k+1):=by
 apply List.ext_getElem
 ·simp[zcq]
 ·intro i h1 h2
  simp only[zcq,List.getElem_set,List.getElem_map,List.getElem_range]
  by_cases e:k=i
  ·subst e
   rw[if_pos rfl,if_pos (by omega)]
  ·rw[if_neg e]
   by_cases q:i < k
   ·rw[if_pos q,if_pos (by omega)]
   ·rw[if_neg q,if_neg (by omega)]
theorem zgW(ns:List Nd):zcq ns ns.length=ns.map Nd.out:=by
 rw[<- z6X ns Nd.out]
 unfold zcq
 apply List.map_congr_left
 intro j hj
 rw[if_pos (List.mem_range.1 hj)]
theorem zhG (N cap:Nat) (P:Nat->Value) (Fs:Nat->Nat->Prop) (ns:List Nd) (w:World) (h:z3i w N ns P Fs) (h16:ns.length<=16) (h1:1<=ns.length) (hO:z26 ns) (hB:z0i w) :
    Calls Tryz.prog 32 #[.slice (some ⟨N,0,none⟩) ns.length cap,.func (.func 33) #[] #[]] w fun e w'=>(∃g,e = .returned (.slice (some ⟨g,0,none⟩) ns.length ns.length)/\Bs w' (some ⟨g,0,none⟩) ns.length (ns.map Nd.out))/\Nb w w':=by
 have hcf:=zir
 have hmk:=z1Z w ns.length (by omega)
 have H:=zH h
 have HO:=zH hO
 have HB:=zH hB
 have O0:=zH (z04.full w ns.length (by omega))
 have HNw:=World.block_lt_of_cell? _ _ (h.cell 0 (by omega))
 simp only at HNw
 clear h hO hB
 go_enter Tryz.func32,Tryz.ntmps32
 go_wp2
 have O1:=zH (show z04 (w.alloc (.cells (madeCells #[.int .u8 0] ns.length) 5)) (.slice (some ⟨w.heap.size,0,none⟩) ns.length ns.length) (zcq ns 0) by rw[zfH];exact O0.out)
 clear O0 hmk
 go_loopw [13] (fun ix wr=>∃k:Nat,k<=ns.length/\ix = .int .i64 k/\z04 wr (.slice (some ⟨w.heap.size,0,none⟩) ns.length ns.length) (zcq ns k)/\Nb w wr) (fun ix _=>ns.length - (intOf ix).toNat)
 case atStart=>exact⟨0,Nat.zero_le _,rfl,O1.out,Nb.rfl.al _⟩
 case round =>
  obtain⟨k,hk,rfl,ho,hn⟩:=hrel
  have OW:=zH ho
  have NW:=zH hn
  clear ho hn O1
  by_cases hlt:k < ns.length
  ·have hlt':decide ((k:Int) < (ns.length:Int))=true:=decide_eq_true (by omega)
   have nd:=H.out.nb NW.out
   have cN:=nd.cell k hlt
   have HC:=zH (zed (P k) (ns.getD k dN) (Fs k) wr (nd.has k hlt) (HO.out k hlt) (HB.out.below NW.out))
   have HL1:=zH (zic (HO.out k hlt))
   have HN:=zH (zfD ns hlt)
   generalize P k=p at cN HC
   generalize (ns.getD k dN).out=y at HC HL1 HN
   clear nd
   go_wp2_with fail
   refine HC.out.mono ?_
   rintro e w2 ⟨rfl,n2⟩
   have o2:=OW.out.keep (F:=fun _=>False) (Kp.ofNb n2) (by simp)
   have cg:=o2.cell k (by rw[zaG];exact hlt)
   have fg:w2.frozen? ⟨w.heap.size,k,none⟩=false:=o2.frozen rfl k
   have OS:=zH (o2.setByte (g:=w.heap.size) rfl k (by rw[zaG];exact hlt) y (by have:=HL1.out;omega))
   have N2:=zH (NW.out.tr n2)
   clear o2 n2 cN HC
   go_wp2
   go_roundw
   case rel=>exact⟨k+1,by omega,by go_num,by rw[<- HN.out];exact OS.out,Nb.st N2.out (Nat.le_refl _) _⟩
   case measure=>simp[intOf];omega
  ·have hlt':decide ((k:Int) < (ns.length:Int))=false:=decide_eq_false (by omega)
   obtain rfl:k=ns.length:=by omega
   go_wp2
   go_ret
   refine⟨⟨w.heap.size,rfl,?_⟩,NW.out⟩
   have:=OW.out.asBs.1
   rwa[zgW]at this
def zlB(w:World)(v:Value)(r:Nd × Ev)(F:Nat->Prop)(e:Ending)(w':World):Prop :=
 ∃F' a c,e = .returned (evV r.2 (.slice a r.2.l.length c))/\Bs w' a c r.2.l/\(∀b o t,a=some ⟨b,o,t⟩->¬F' b/\(F b\/w.heap.size<=b))/\z0N w' v r.1 F'/\Kp F w w'/\∀k,F' k->F k\/w.heap.size<=k
theorem zcJ (p:Value) (n:Nd) (F:Nat->Prop) (b:Nat) (w:World) (h:z0N w p n F) (hO:n.Ok) (hx:n.x.length<=60100) (hB:z0i w) (hb:b<=1) :
    Calls Tryz.prog 66 #[.func (.func 67) #[p] #[],.int .u8 (b:Nat)] w (zlB w p (n.step b) F):=by
 have hcf:=zgt
 have LT:=zH (z34 h)
 obtain⟨w0,hw0⟩:∃w0,w0=w.alloc (.cells #[.int .i64 0,.int .i64 0,.int .i64 0,.int .u32 0,.bool false,.bool false,.bool false,.bool false,.bool false,.int .u8 0,.int .u8 0,.int .u32 0,.slice none 0 0] 40):=⟨_,rfl⟩
 have n0:Nb w w0:=by rw[hw0];exact Nb.rfl.al _
 have s0:w0.heap.size=w.heap.size+1:=by rw[hw0,World.size_alloc]
 have X0:=zH (show Blk w0 w.heap.size #[.int .i64 0,.int .i64 0,.int .i64 0,.int .u32 0,.bool false,.bool false,.bool false,.bool false,.bool false,.int .u8 0,.int .u8 0,.int .u32 0,.slice none 0 0] 40 by rw[hw0];exact Blk.new _ _ _)
 have HS:=zH (zcN p n F b w0 (z0G h (Kp.ofNb (F:=fun _=>False) n0) (fun _ _ q=>q)) hO (fun _=>hx) (hB.below n0) hb)
 obtain⟨r,hr⟩:∃r,r=n.step b:=⟨_,rfl⟩
 rw[<- hr]at HS ⊢
 obtain⟨m,⟨ek,ee,⟨eK,eI,eX,eR,eB,eE,eS,eD,eV,eA⟩,el⟩⟩:=r
 have HW0:=zH hw0
 have N0:=zH n0
 have S0:=zH s0
 clear h hO hx hB hr hw0 n0 s0
 unfold zdh at HS
 simp only[evV,z1V]at HS
 unfold zlB
 simp only[evV,z1V]
 go_enter Tryz.func66,Tryz.ntmps66
 go_wp2_with fail
 rw[<- HW0.out]
 refine HS.out.mono ?_
 rintro e w1 ⟨F',⟨a,c,rfl,hbs,hab⟩,g1,g2,g3⟩
 have hR0:¬F w.heap.size:=fun q=>by have:=LT.out _ q;omega
 have hR1:¬F' w.heap.size:=fun q=>by
  rcases g3 _ q with r | r
  ·exact hR0 r
  ·have:=S0.out;omega
 have n2:Nb w1 (w1.alloc (.cells #[.int .i64 (ek:Nat),.int .i64 (ee:Nat),.int .i64 eK,.int .u32 eI,.bool eX,.bool eR,.bool eB,.bool eE,.bool eS,.int .u8 eD,.int .u8 eV,.int .u32 eA,.slice a el.length c] 40)):=Nb.rfl.al _
 have X2:=zH ((X0.out.keep g2 hR0).nb n2)
 have G1:=zH (z0G g1 (Kp.ofNb (F:=fun _=>False) n2) (fun _ _ q=>q))
 have G2:=zH (((Kp.ofNb (F:=F) N0.out).tr g2 (fun k hk => .inl hk)).rn n2)
 have G3:=zH (show ∀k,F' k->F k\/w.heap.size<=k from fun k hk=>(g3 k hk).imp id (fun q=>Nat.le_trans N0.out.size q))
 have HBS:=zH (hbs.below n2)
 have HAB:=zH (show ∀b o t,a=some ⟨b,o,t⟩->(¬F' b/\(F b\/w.heap.size<=b))/\b≠w.heap.size from fun b o t e=>by
  obtain⟨q1,q2⟩:=hab b o t e
  refine⟨⟨q1,q2.imp id (fun q=>Nat.le_trans N0.out.size q)⟩,fun e => ?_⟩
  rcases q2 with q | q
  ·exact hR0 (e ▸ q)
  ·have:=S0.out;omega)
 have HR1:=zH hR1
 clear hbs hab g1 g2 g3 hR0 hR1 n2 HS X0
 go_wp2_with (refine wpList_store_row (by rfl) _ _ _ (by rfl) _ _ (by rfl) (by rfl) _ _ X2.out (by kernel_rfl) (by rfl) (by simp[Value.oneCell']) ?_)
 have hq:=Blk.row X2.out (z0b (⟨ek,ee,⟨eK,eI,eX,eR,eB,eE,eS,eD,eV,eA⟩,el⟩:Sta) (.slice a el.length c))
 have kq:=Kp.row (w1.alloc (.cells #[.int .i64 (ek:Nat),.int .i64 (ee:Nat),.int .i64 eK,.int .u32 eI,.bool eX,.bool eR,.bool eB,.bool eE,.bool eS,.int .u8 eD,.int .u8 eV,.int .u32 eA,.slice a el.length c] 40)) w.heap.size (z0b (⟨ek,ee,⟨eK,eI,eX,eR,eB,eE,eS,eD,eV,eA⟩,el⟩:Sta) (.slice a el.length c))
 change bodyPost _ _ _ _ _ (World.setRow (w1.alloc (.cells #[.int .i64 (ek:Nat),.int .i64 (ee:Nat),.int .i64 eK,.int .u32 eI,.bool eX,.bool eR,.bool eB,.bool eE,.bool eS,.int .u8 eD,.int .u8 eV,.int .u32 eA,.slice a el.length c] 40)) w.heap.size (z0b (⟨ek,ee,⟨eK,eI,eX,eR,eB,eE,eS,eD,eV,eA⟩,el⟩:Sta) (.slice a el.length c)))
 generalize World.setRow (w1.alloc (.cells #[.int .i64 (ek:Nat),.int .i64 (ee:Nat),.int .i64 eK,.int .u32 eI,.bool eX,.bool eR,.bool eB,.bool eE,.bool eS,.int .u8 eD,.int .u8 eV,.int .u32 eA,.slice a el.length c] 40)) w.heap.size (z0b (⟨ek,ee,⟨eK,eI,eX,eR,eB,eE,eS,eD,eV,eA⟩,el⟩:Sta) (.slice a el.length c))=WW at hq kq ⊢
 obtain⟨_,⟨e0,e1,e2,e3,e4,e5,e6,e7,e8,e9,e10,e11,e12⟩,_⟩:=Blk.h13 hq
 exact bodyPost_ret (v:=z1V (⟨ek,ee,⟨eK,eI,eX,eR,eB,eE,eS,eD,eV,eA⟩,el⟩:Sta) (.slice a el.length c)) (by simp[results,Tryz.results66,go_sem,z1V,zM,noF,e0,e1,e2,e3,e4,e5,e6,e7,e8,e9,e10,e11,e12]) rfl ⟨F',a,c,rfl,HBS.out.keepKp kq (fun b o t e=>(HAB.out b o t e).2),fun b o t e=>(HAB.out b o t e).1,z0G G1.out kq (fun k hk e=>HR1.out (e ▸ hk)),G2.out.tr kq (fun k hk => .inr (by omega)),G3.out⟩
def evL(ns:List Nd)(L t:Nat):List Ev:=(List.range ns.length).map fun j=>((ns.getD j dN).step (z5z L t j)).2
theorem zjp(ns:List Nd)(L t:Nat)(h:j < ns.length):(evL ns L t).getD j z02=((ns.getD j dN).step (z5z L t j)).2:=by simp[evL,List.getD,h]
def z8m(ns:List Nd)(L t k:Nat):List Nd:=(List.range ns.length).map fun j=>if j < k then((ns.getD j dN).step (z5z L t j)).1 else ns.getD j dN
theorem z3M(ns:List Nd)(L t k:Nat):(z8m ns L t k).length=ns.length:=by simp[z8m]
theorem zg0(ns:List Nd)(L t k:Nat)(h:j < ns.length):(z8m ns L t k).getD j dN=if j < k then((ns.getD j dN).step (z5z L t j)).1 else ns.getD j dN:=by simp[z8m,List.getD,h]
theorem zdI(ns:List Nd)(L t:Nat):z8m ns L t 0=ns:=by
 have e:=z6X ns id
 rw[List.map_id]at e
 unfold z8m
 simpa only[Nat.not_lt_zero,if_false,id]using e
theorem zdy(ns:List Nd)(L t:Nat)(h:k < ns.length):(z8m ns L t k).set k ((ns.getD k dN).step (z5z L t k)).1=z8m ns L t (k+1):=by
 apply List.ext_getElem
 ·simp[z8m]
 ·intro i h1 h2
  simp only[z8m,List.getElem_set,List.getElem_map,List.getElem_range]
  by_cases e:k=i
  ·subst e
   rw[if_pos rfl,if_pos (by omega)]
  ·rw[if_neg e]
   by_cases q:i < k
   ·rw[if_pos q,if_pos (by omega)]
   ·rw[if_neg q,if_neg (by omega)]
theorem zg4(ns:List Nd)(L t:Nat):z8m ns L t ns.length=(List.range ns.length).map fun j=>((ns.getD j dN).step (z5z L t j)).1:=by
 unfold z8m
 apply List.map_congr_left
 intro j hj
 rw[if_pos (List.mem_range.1 hj)]
theorem Kp.cells(b:Nat)(vs:List Value):∀(o:Nat) (w:World),Kp (fun x=>x=b) w (w.setCells b o vs):=by
 induction vs with
 | nil=>intro o w;exact Kp.rfl
 | cons v r ih=>intro o w;exact(Kp.s1 o v).tr (ih (o+1) _) (fun _ h => .inl h)
def EvK(w:World)(E k:Nat)(es:List Ev)(D:Nat->Prop):Prop:=∀j,j < k->∃a' c',(∀i u,(evC (es.getD j z02) (.slice a' (es.getD j z02).l.length c'))[i]? = some u->w.cell? ⟨E,j*13+i,none⟩=some u)/\Bs w a' c' (es.getD j z02).l/\(∀b' o t,a'=some ⟨b',o,t⟩->0 < (es.getD j z02).l.length->D b')
theorem zeR(e:Ev)(v:Value):(evC e v).length=13:=rfl
theorem EvK.keep(h:EvK w E k es D)(hk:Kp G w w')(hE:¬G E)(hD:∀x,D x->¬G x):EvK w' E k es D:=fun j hj=>by
 obtain⟨a',c',h1,h2,h3⟩:=h j hj
 exact⟨a',c',fun i u hu=>z6W hk (h1 i u hu) hE,h2.keepKp0 hk (fun b o t e hl=>hD b (h3 b o t e hl)),h3⟩
theorem EvK.put {n:Nat} {D':Nat->Prop} (h:EvK w E k es D) (hD:∀x,D x->D' x/\x≠E) (hk:k < n) (ht:w.there E 0 (n*13)) {e:Ev} (he:es.getD k z02=e) {a:Option Addr} (hb:Bs w a c e.l) (ha:∀b o t,a=some ⟨b,o,t⟩->0 < e.l.length->D' b/\b≠E) :
    EvK (w.setCells E (k*13) (evC e (.slice a e.l.length c))) E (k+1) es D':=fun j hj=>by
 have kq:=Kp.cells E (evC e (.slice a e.l.length c)) (k*13) w
 by_cases hjk:j=k
 ·subst hjk
  rw[he]
  refine⟨a,c,fun i u hu => ?_,hb.keepKp0 kq (fun b o t q hl=>(ha b o t q hl).2),fun b o t q hl=>(ha b o t q hl).1⟩
  have hi:=(List.getElem?_eq_some_iff.1 hu).1
  rw[World.cell?_setCells_in E _ _ w (fun i hi=>by
   rw[zeR]at hi
   have:=(ht (j*13+i) (by omega)).1
   rwa[Nat.zero_add]at this) i hi,<- hu,List.getElem?_eq_getElem hi]
 ·obtain⟨a',c',h1,h2,h3⟩:=h j (by omega)
  refine⟨a',c',fun i u hu => ?_,h2.keepKp0 kq (fun b o t q hl=>(hD b (h3 b o t q hl)).2),fun b o t q hl=>(hD b (h3 b o t q hl)).1⟩
  have hi:=(List.getElem?_eq_some_iff.1 hu).1
  rw[zeR]at hi
  rw[World.cell?_setCells_out E _ _ w _ (fun _ _ => .inl (by show j*13+i < k*13;omega))]
  exact h1 i u hu
def SmI(w wr:World)(N E:Nat)(ns:List Nd)(L t:Nat)(P:Nat->Value)(Fs:Nat->Nat->Prop)(k:Nat):Prop:=∃Fk D,
 z3i wr N (z8m ns L t k) P Fk/\(∀j x,j < ns.length->Fk j x->Fs j x\/w.heap.size < x)/\EvK wr E k (evL ns L t) D/\wr.there E 0 (ns.length*13) /\
 (∀x,D x->x < wr.heap.size/\x≠E/\(∀j,j < ns.length->¬Fk j x)/\((∃j,j < ns.length/\Fs j x)\/w.heap.size<=x))/\Kp (fun x=>∃j,j < ns.length/\Fs j x) w wr
theorem z77{o n:Nat}(h:w.there E o n)(hk:Kp F w w')(hE:¬F E):w'.there E o n:=fun j hj=>by
 obtain⟨h1,h2⟩:=h j hj
 obtain⟨u,hu⟩:=Option.isSome_iff_exists.1 h1
 have hb:=World.block_lt_of_cell? _ _ hu
 have e:=hk.block E hb hE
 exact⟨by rw[z6W hk hu hE];rfl,by rw[<- h2];simp only[World.frozen?,e]⟩
theorem SmI.next (nN:N≠w.heap.size) {L:Nat} {Fk:Nat->Nat->Prop} (hk:k < ns.length) (hlt:∀j x,j < ns.length->Fs j x->x < w.heap.size) (hsz:w.heap.size < wr.heap.size)
    (h1:z3i wr N (z8m ns L t k) P Fk) (h2:∀j x,j < ns.length->Fk j x->Fs j x\/w.heap.size < x) (h3:EvK wr w.heap.size k (evL ns L t) D) (h4:wr.there w.heap.size 0 (ns.length*13))
    (h5:∀x,D x->x < wr.heap.size/\x≠w.heap.size/\(∀j,j < ns.length->¬Fk j x)/\((∃j,j < ns.length/\Fs j x)\/w.heap.size<=x)) (h6:Kp (fun x=>∃j,j < ns.length/\Fs j x) w wr) {e:Ev} (he:(evL ns L t).getD k z02=e) {a:Option Addr} 
    (g0:Bs w2 a c e.l) (g1:∀b o t,a=some ⟨b,o,t⟩->¬F' b/\(Fk k b\/wr.heap.size<=b)) (g2:z0N w2 (P k) ((ns.getD k dN).step (z5z L t k)).1 F') (g3:Kp (Fk k) wr w2) (g4:∀x,F' x->Fk k x\/wr.heap.size<=x) :
    SmI w (w2.setCells w.heap.size (k*13) (evC e (.slice a e.l.length c))) N w.heap.size ns L t P Fs (k+1):=by
 have hkm:k < (z8m ns L t k).length:=by rw[z3M];exact hk
 have nE:∀j,j < ns.length->¬Fk j w.heap.size:=fun j hj q=>by
  rcases h2 j _ hj q with r | r
  ·have:=hlt j _ hj r;omega
  ·omega
 have nE':¬F' w.heap.size:=fun q=>by
  rcases g4 _ q with r | r
  ·exact nE k hk r
  ·omega
 have T:=h1.turn k hkm g2 g3 g4
 rw[zdy ns L t hk]at T
 have kq:=Kp.cells w.heap.size (evC e (.slice a e.l.length c)) (k*13) w2
 refine⟨fun j=>if j=k then F' else Fk j,fun x=>D x\/∃o s,a=some ⟨x,o,s⟩/\0 < e.l.length,T.keep kq nN (fun j x hj hf q => ?_),fun j x hj hf => ?_,?_,World.there_setCells (z77 h4 g3 (nE k hk)) _ _ _,fun x hx => ?_,?_⟩
 ·subst q
  rw[z3M]at hj
  by_cases hjk:j=k
  ·simp only[if_pos hjk]at hf
   exact nE' hf
  ·simp only[if_neg hjk]at hf
   exact nE j hj hf
 ·by_cases hjk:j=k
  ·simp only[if_pos hjk]at hf
   subst hjk
   rcases g4 x hf with r | r
   ·exact h2 j x hj r
   ·exact .inr (by omega)
  ·simp only[if_neg hjk]at hf
   exact h2 j x hj hf
 ·refine EvK.put (h3.keep g3 (nE k hk) (fun x hx=>(h5 x hx).2.2.1 k hk)) (fun x hx=>⟨.inl hx,(h5 x hx).2.1⟩) hk (z77 h4 g3 (nE k hk)) he g0 (fun b o s q hl=>⟨.inr ⟨o,s,q,hl⟩,fun e => ?_⟩)
  subst e
  rcases(g1 _ o s q).2 with r | r
  ·exact nE k hk r
  ·omega
 ·have hs2:(w2.setCells w.heap.size (k*13) (evC e (.slice a e.l.length c))).heap.size>=w2.heap.size:=kq.size
  have hs3:=g3.size
  rcases hx with hx | ⟨o,s,q,hl⟩
  ·obtain⟨d1,d2,d3,d4⟩:=h5 x hx
   refine⟨by omega,d2,fun j hj hf => ?_,d4⟩
   by_cases hjk:j=k
   ·simp only[if_pos hjk]at hf
    rcases g4 x hf with r | r
    ·exact d3 k hk r
    ·omega
   ·simp only[if_neg hjk]at hf
    exact d3 j hj hf
  ·obtain⟨d1,d2⟩:=g1 x o s q
   obtain⟨b',o',e',hc⟩:=g0.hcells hl
   rw[q]at e'
   simp only[Option.some.injEq,Addr.mk.injEq]at e'
   have hxl:=World.block_lt_of_cell? _ _ (hc 0 hl)
   simp only at hxl
   rw[<- e'.1]at hxl
   refine⟨by omega,fun e => ?_,fun j hj hf => ?_,?_⟩
   ·subst e
    rcases d2 with r | r
    ·exact nE k hk r
    ·omega
   ·by_cases hjk:j=k
    ·simp only[if_pos hjk]at hf
     exact d1 hf
    ·simp only[if_neg hjk]at hf
     rcases d2 with r | r
     ·exact h1.dis k j hkm (by rw[z3M];exact hj) (fun q=>hjk q.symm) x r hf
     ·have:=h1.lt (by rw[z3M];exact hj) hf
      omega
   ·rcases d2 with r | r
    ·rcases h2 k x hk r with r | r
     ·exact .inl ⟨k,hk,r⟩
     ·exact .inr (by omega)
    ·exact .inr (by omega)
 ·refine(h6.tr g3 (fun x hx => ?_)).tr kq (fun x hx => .inr (by omega))
  rcases h2 k x hk hx with r | r
  ·exact .inl ⟨k,hk,r⟩
  ·exact .inr (by omega)
theorem zjh:(Tryz.prog.info? 40).map (fun i=>(i.zero,i.size,i.bytes))=some (some (.agg #[.int .i64 0,.int .i64 0,.int .i64 0,.int .u32 0,.bool false,.bool false,.bool false,.bool false,.bool false,.int .u8 0,.int .u8 0,.int .u32 0,.slice none 0 0]),13,64):=by kernel_rfl
theorem zjo(w:World)(n:Nat)(hn:n<=1000):(Instr.makeSlice 59 (.int .i64 (n:Int)) (.int .i64 (n:Int))).run Tryz.prog w = .ok (.slice (some ⟨w.heap.size,0,none⟩) n n) (w.alloc (.cells (madeCells #[.int .i64 0,.int .i64 0,.int .i64 0,.int .u32 0,.bool false,.bool false,.bool false,.bool false,.bool false,.int .u8 0,.int .u8 0,.int .u32 0,.slice none 0 0] (n*13)) 40)):=by
 obtain⟨i0,hi,hz0,hz1,hz2⟩:=info_parts zjh
 have h:=run_make w 59 40 i0 _ Tryz.underlying59 hi hz0 .i64 .i64 n n (by omega) (by omega) (by rw[hz2];omega) (by omega)
 rw[hz1]at h
 simpa [Value.cells]using h
theorem zcc(w:World)(z:Array Value)(n:Nat)(t:TypeId):(w.alloc (.cells (madeCells z n) t)).there w.heap.size 0 n:=fun j hj=>by
 have hb:=Blk.new w (madeCells z n) t
 refine⟨?_,hb.frozen (0+j)⟩
 have hj2:0+j < (madeCells z n).size:=by rw[size_madeCells];omega
 rw[hb.cell (0+j),Array.getElem?_eq_getElem hj2]
 rfl
theorem zmj(t k:Nat)(ht:t < 4294967296):bits BinOp.and IntKind.u32 ((t:Int) / 2^k) 1=((t / 2^k%2:Nat):Int):=by
 have e:((t:Int) / 2^k)=((t / 2^k:Nat):Int):=by push_cast;rfl
 have h:=zdj (t / 2^k) 1 (Nat.lt_of_le_of_lt (Nat.div_le_self _ _) ht) (by omega)
 rw[Nat.and_one_is_mod]at h
 rw[e]
 exact h
theorem zj5(L t k:Nat)(hL:L<=1):bits BinOp.xor IntKind.u8 (L:Int) ((t / 2^k%2:Nat):Int)=((z5z L t k:Nat):Int):=by
 unfold z5z
 rcases(by omega:L=0\/L=1)with rfl | rfl<;>rcases(by omega:t / 2^k%2=0\/t / 2^k%2=1)with h | h<;>rw[h]<;>decide +kernel
theorem zl0(q:Nat)(h:q<=1):IntKind.u8.wrap (q:Int)=(q:Int):=by
 rcases(by omega:q=0\/q=1)with rfl | rfl<;>decide +kernel
theorem z8V {rest:List Oper} {a:Act} {Q:Exit->Act->World->Prop} {x y:Operand} {ty:TypeId} {pos:String} {aft:_} (w:World) (E o:Nat) (ev:Ev) (u:Value) (hx:a.eval x = .pointer (some ⟨E,o,none⟩)) (hy:a.eval y=evV ev u) (hu:u.oneCell'=true) (ht:w.there E o 13)
    (h:wpList Tryz.prog ops Q rest (a.put none undef) (w.setCells E o (evC ev u))):wpList Tryz.prog ops Q ({ dst:=none,op:=Op.store 40 x y,type:=ty,pos:=pos,after:=aft,guard:=none }::rest) a w:=by
 obtain⟨k,e,⟨K,I,X,R,B,E',S,D,V,A⟩,l⟩:=ev
 exact wpList_store_mid rfl 40 x y rfl E o _ hx hy ht (by kernel_rfl) (by simp[Value.oneCell'];exact hu) h
theorem z8U (N cap:Nat) (P:Nat->Value) (Fs:Nat->Nat->Prop) (ns:List Nd) (L t:Nat) (w:World) (h:z3i w N ns P Fs) (hN:N < w.heap.size) (h16:ns.length<=16) (hO:z26 ns) (hx:za5 60100 ns) (hB:∀w',Kp (fun x=>∃j,j < ns.length/\Fs j x) w w'->z0i w') (hL:L<=1) (ht:t < 4294967296) :
    Calls Tryz.prog 35 #[.slice (some ⟨N,0,none⟩) ns.length cap,.int .u8 (L:Nat),.int .u32 (t:Nat)] w fun e w'=>e = .returned (.slice (some ⟨w.heap.size,0,none⟩) ns.length ns.length)/\SmI w w' N w.heap.size ns L t P Fs ns.length/\w.heap.size < w'.heap.size:=by
 have hmk:=zjo w ns.length (by omega)
 have hmf:∀(fn:Fn) (first cap:Array Value) (w:World),(Instr.makeFunc fn first cap).run Tryz.prog w = .ok (.func fn first cap) w:=fun _ _ _ _=>rfl
 have H:=zH h
 have HO:=zH hO
 have HX:=zH hx
 have HB:=zH hB
 have HL:=zH hL
 have HT:=zH ht
 have LT:=zH (fun j x (hj:j < ns.length) (hf:Fs j x)=>h.lt hj hf)
 have W0:=zH (show SmI w (w.alloc (.cells (madeCells #[.int .i64 0,.int .i64 0,.int .i64 0,.int .u32 0,.bool false,.bool false,.bool false,.bool false,.bool false,.int .u8 0,.int .u8 0,.int .u32 0,.slice none 0 0] (ns.length*13)) 40)) N w.heap.size ns L t P Fs 0 from⟨Fs,fun _=>False,by rw[zdI];exact h.nb (Nb.rfl.al _),fun j x _ hf => .inl hf,fun j hj=>absurd hj (Nat.not_lt_zero j),zcc _ _ _ _,fun x hx=>hx.elim,Kp.ofNb (Nb.rfl.al _)⟩)
 clear h hO hx hB hL ht
 go_enter Tryz.func35,Tryz.ntmps35
 go_wp2
 clear hmk
 go_loopw [15] (fun ix wr=>∃k:Nat,k<=ns.length/\ix = .int .i64 k/\SmI w wr N w.heap.size ns L t P Fs k/\w.heap.size < wr.heap.size) (fun ix _=>ns.length - (intOf ix).toNat)
 case atStart=>exact⟨0,Nat.zero_le _,rfl,W0.out,by rw[World.size_alloc];omega⟩
 case round =>
  obtain⟨k,hk,rfl,⟨Fk,D,h1,h2,h3,h4,h5,h6⟩,hsz⟩:=hrel
  have S1:=zH h1
  have S2:=zH h2
  have S3:=zH h3
  have S4:=zH h4
  have S5:=zH h5
  have S6:=zH h6
  have SZ:=zH hsz
  clear h1 h2 h3 h4 h5 h6 hsz W0
  by_cases hlt:k < ns.length
  ·have hlt':decide ((k:Int) < (ns.length:Int))=true:=decide_eq_true (by omega)
   have hkm:k < (z8m ns L t k).length:=by rw[z3M];exact hlt
   have cN:=S1.out.cell k hkm
   have hnd:=S1.out.has k hkm
   rw[zg0 ns L t k hlt,if_neg (Nat.lt_irrefl k)]at hnd
   have hs1:z5z L t k<=1:=zf9 HL.out
   have TK:=zH (zcJ (P k) (ns.getD k dN) (Fk k) (z5z L t k) wr hnd (HO.out k hlt) (HX.out k hlt) (HB.out wr S6.out) hs1)
   have NX:=zH (fun w2 F' e a c (he:((ns.getD k dN).step (z5z L t k)).2=e)=>SmI.next (w2:=w2) (F':=F') (e:=e) (a:=a) (c:=c) (by omega:N≠w.heap.size) hlt LT.out SZ.out S1.out S2.out S3.out S4.out S5.out S6.out ((zjp ns L t hlt).trans he))
   have TH:=zH (fun w2 (kk:Kp (Fk k) wr w2)=>z77 S4.out kk (fun q=>by
    rcases S2.out k _ hlt q with r | r
    ·have:=LT.out k _ hlt r;omega
    ·omega))
   have x1:=zmj t k HT.out
   have x2:=zj5 L t k HL.out
   obtain⟨q,hq⟩:∃q,t / 2^k%2=q:=⟨_,rfl⟩
   have hq1:q<=1:=by omega
   rw[hq]at x1 x2
   have x3:=zl0 q hq1
   obtain⟨r,hr⟩:∃r,r=(ns.getD k dN).step (z5z L t k):=⟨_,rfl⟩
   rw[<- hr]at TK NX
   generalize z5z L t k=s at x2 TK hs1
   obtain⟨m,⟨ek,ee,⟨eK,eI,eX,eR,eB,eE,eS,eD,eV,eA⟩,el⟩⟩:=r
   generalize P k=p at cN TK NX
   unfold zlB at TK
   simp only[evV,z1V]at TK
   clear hq hr hnd hkm S1 S2 S3 S4 S5 S6
   go_wp2_with fail
   refine TK.out.mono ?_
   rintro e w2 ⟨F',a,c,rfl,g0,g1,g2,g3,g4⟩
   have th:=TH.out w2 g3
   have nx:=NX.out w2 F' _ a c rfl g0 g1 g2 g3 g4
   have HTH:=zH (show w2.there w.heap.size (k*13) 13 from fun j hj=>by
    have:=th (k*13+j) (by omega)
    rwa[Nat.zero_add]at this)
   have NXX:=zH nx
   have SZ2:=zH (show w.heap.size < w2.heap.size from Nat.lt_of_lt_of_le SZ.out g3.size)
   clear g0 g1 g2 g3 g4 th nx TK NX TH cN x1 x2 x3
   go_wp2_with (refine z8V _ w.heap.size (k*13) ⟨ek,ee,⟨eK,eI,eX,eR,eB,eE,eS,eD,eV,eA⟩,el⟩ (.slice a el.length c) (by rfl) (by rfl) rfl HTH.out ?_)
   have SZ3:=zH (Nat.lt_of_lt_of_le SZ2.out (Kp.cells w.heap.size (evC ⟨ek,ee,⟨eK,eI,eX,eR,eB,eE,eS,eD,eV,eA⟩,el⟩ (.slice a el.length c)) (k*13) w2).size)
   go_roundw
   case rel=>exact⟨k+1,by omega,by go_num,NXX.out,SZ3.out⟩
   case measure=>simp[intOf];omega
  ·have hlt':decide ((k:Int) < (ns.length:Int))=false:=decide_eq_false (by omega)
   obtain rfl:k=ns.length:=by omega
   go_wp2
   go_ret
   exact⟨rfl,⟨Fk,D,S1.out,S2.out,S3.out,S4.out,S5.out,S6.out⟩,SZ.out⟩
structure NwI(w wr:World)(R:Nat)(v:Value)(kns:List Bool)(k:Nat)(P:Nat->Value)(Fs:Nat->Nat->Prop):Prop where
 blk:Blk wr R #[v,.slice none 0 0,.int .i64 0] 86
 own:z2a wr v ((List.range k).map P)
 has:∀j,j < k->z0N wr (P j) (Nd.new (kns.getD j false)) (Fs j)
 dis:∀i j,i < k->j < k->i≠j->∀x,Fs i x->¬Fs j x
 new:∀j x,j < k->Fs j x->w.heap.size<=x/\x≠R/\v.ownBlock≠some x
 row:∀g,v.ownBlock=some g->w.heap.size<=g/\g≠R
 rw:w.heap.size<=R
 nb:Nb w wr
theorem zgK{n:Nd}(h:z0N w v n F):∃R,v = .pointer (some ⟨R,0,none⟩):=by
 obtain⟨R,_,_,_,_,h,_⟩:=h
 exact⟨R,h⟩
theorem NwI.next {w3:World} {v2 p:Value} (h:NwI w w1 R v kns k P Fs) (n2:Nb w1 w2) (hp:z0N w2 p (Nd.new (kns.getD k false)) G) (hG:∀x,G x->w1.heap.size<=x) (hn2:w2.heap.size<=w3.heap.size)
    (ho:z2a w3 v2 ((List.range k).map P++[p])) (hk:Kp (fun x=>v.ownBlock=some x) w2 w3) (hv:∀g,v2.ownBlock=some g->v.ownBlock=some g\/w2.heap.size<=g) :
    NwI w (w3.setCell ⟨R,0,none⟩ v2) R v2 kns (k+1) (fun j=>if j=k then p else P j) (fun j=>if j=k then G else Fs j):=by
 have kR:Kp (fun x=>x=R) w3 (w3.setCell ⟨R,0,none⟩ v2):=Kp.s1 0 v2
 have B2:=(h.blk.nb n2).keep hk (fun q=>(h.row R q).2 rfl)
 have hRl:=h.blk.lt
 have e1:(List.range (k+1)).map (fun j=>if j=k then p else P j)=(List.range k).map P++[p]:=by
  rw[List.range_succ,List.map_append]
  congr 1
  ·apply List.map_congr_left
   intro j hj
   have:=List.mem_range.1 hj
   rw[if_neg (by omega)]
  ·simp
 have hGv:∀x,G x->v.ownBlock≠some x:=fun x hx e=>by
  have:=hG x hx
  have:=h.own.lt e
  omega
 have hvR:v2.ownBlock≠some R:=fun e=>by
  rcases hv R e with q | q
  ·exact(h.row R q).2 rfl
  ·have:=n2.size;omega
 refine⟨by simpa using B2.set 0 v2,by rw[e1];exact ho.keep kR (fun g hg e=>hvR (e ▸ hg)),fun j hj => ?_,fun a b ha hb hab x hx hf => ?_,fun j x hj hf => ?_,fun g hg => ?_,h.rw,(h.nb.tr n2).trans ((hk.toBelow (Nat.le_trans h.nb.size n2.size) (fun x hx=>(h.row x hx).1)).trans (kR.toBelow (Nat.le_trans (Nat.le_trans h.nb.size n2.size) hn2) (fun x hx=>hx ▸ h.rw)))⟩
 ·by_cases hjk:j=k
  ·subst hjk
   simp only[if_pos]
   exact z0G (z0G hp hk (fun x hx=>hGv x hx)) kR (fun x hx e=>by have:=hG x hx;omega)
  ·simp only[if_neg hjk]
   exact z0G (z0G (z0G (h.has j (by omega)) (Kp.ofNb (F:=fun _=>False) n2) (fun _ _ q=>q)) hk (fun x hx=>(h.new j x (by omega) hx).2.2)) kR (fun x hx e=>(h.new j x (by omega) hx).2.1 e)
 ·by_cases hak:a=k
  ·rw[if_pos hak]at hx
   rw[if_neg (by omega)]at hf
   have:=z34 (h.has b (by omega)) x hf
   have:=hG x hx
   omega
  ·rw[if_neg hak]at hx
   by_cases hbk:b=k
   ·rw[if_pos hbk]at hf
    have:=z34 (h.has a (by omega)) x hx
    have:=hG x hf
    omega
   ·rw[if_neg hbk]at hf
    exact h.dis a b (by omega) (by omega) hab x hx hf
 ·by_cases hjk:j=k
  ·rw[if_pos hjk]at hf
   have h1:=hG x hf
   refine⟨Nat.le_trans h.nb.size h1,by omega,fun e => ?_⟩
   rcases hv x e with q | q
   ·exact hGv x hf q
   ·have:=z34 hp x hf;omega
  ·rw[if_neg hjk]at hf
   obtain⟨q1,q2,q3⟩:=h.new j x (by omega) hf
   refine⟨q1,q2,fun e => ?_⟩
   rcases hv x e with q | q
   ·exact q3 q
   ·have:=z34 (h.has j (by omega)) x hf;have:=n2.size;omega
 ·rcases hv g hg with q | q
  ·exact h.row g q
  ·exact⟨Nat.le_trans (Nat.le_trans h.nb.size n2.size) q,fun e=>by have:=n2.size;omega⟩
theorem NwI.bus (h:NwI w wr R v kns kns.length P Fs) (h1:1<=kns.length) (h16:kns.length<=16) (hB:z0i w) :
    ∃F,z2X wr (.pointer (some ⟨R,0,none⟩)) (kns.map Nd.new) [] F/\(∀k,F k->w.heap.size<=k)/\Nb w wr:=by
 have hl:((List.range kns.length).map P).length=kns.length:=by simp
 obtain⟨g,cap,hv,hc1,hc2,hcell⟩:=h.own.some (by rw[hl];omega)
 rw[hl]at hv hc1
 have hg:v.ownBlock=some g:=by rw[hv];rfl
 have e:∀j,j < kns.length->(kns.map Nd.new).getD j dN=Nd.new (kns.getD j false):=fun j hj=>by simp[List.getD,hj]
 have hlen:(kns.map Nd.new).length=kns.length:=by simp
 have hT:1 < w.heap.size/\0 < w.heap.size:=by
  have a0:w.cell? ⟨1,0,none⟩=some (.int .i64 0):=hB.1 0 _ rfl
  have b0:w.cell? ⟨0,0,none⟩=some (.int .i64 12):=hB.2 0 (by omega)
  exact⟨World.block_lt_of_cell? _ _ a0,World.block_lt_of_cell? _ _ b0⟩
 have hs:=h.nb.size
 have hnew:∀k,(k=R\/k=g\/∃j,j < kns.length/\Fs j k)->w.heap.size<=k:=fun k hk=>by
  rcases hk with rfl | rfl | ⟨j,hj,hf⟩
  ·exact h.rw
  ·exact(h.row _ hg).1
  ·exact(h.new j k hj hf).1
 refine⟨fun k=>k=R\/k=g\/∃j,j < kns.length/\Fs j k,⟨R,g,cap,.slice none 0 0,0,P,Fs,rfl,⟨?_,⟨fun j hj => ?_,fun j hj => ?_,fun i j hi hj hij => ?_,fun j k hj hf q => ?_⟩,⟨[],z04.nil _,by simp,fun _=>rfl,by omega,rfl⟩,.inl rfl,.inr (.inl rfl),fun q=>(h.row g hg).2 q.symm,fun j k hj hf => ?_,fun k hk=>(by cases hk),fun k hk => ?_,by rw[hlen];exact h1,by rw[hlen];exact h16,by rw[hlen];exact⟨hc1,hc2⟩,fun k hk => ?_,⟨by omega,by omega⟩⟩⟩,hnew,h.nb⟩
 ·have:=h.blk
  rw[hv]at this
  rw[hlen]
  exact this
 ·rw[hlen]at hj
  exact hcell j (P j) (by simp[hj])
 ·rw[hlen]at hj
  rw[e j hj]
  exact h.has j hj
 ·rw[hlen]at hi hj
  exact h.dis i j hi hj hij
 ·rw[hlen]at hj
  subst q
  exact(h.new j _ hj hf).2.2 hg
 ·rw[hlen]at hj
  exact⟨.inr (.inr ⟨j,hj,hf⟩),(h.new j k hj hf).2.1⟩
 ·rcases hk with rfl | rfl | ⟨j,hj,hf⟩
  ·exact h.blk.lt
  ·exact h.own.lt hg
  ·exact z34 (h.has j hj) k hf
 ·have:=hnew k hk
  exact⟨by omega,by omega⟩
theorem zaY(a:Option Addr)(cap:Nat)(kns:List Bool)(w:World)(h:Bls w a cap kns)(hB:z0i w)(h1:1<=kns.length)(h16:kns.length<=16):Calls Tryz.prog 14 #[.slice a kns.length cap] w (zm8 z2X w kns):=by
 have H:=zH h
 have HB:=zH hB
 have FIN:=zH (fun wr R v P Fs (q:NwI w wr R v kns kns.length P Fs)=>q.bus h1 h16 hB)
 have d1:decide ((kns.length:Int) < 1)=false:=decide_eq_false (by omega)
 have d2:decide ((16:Int) < (kns.length:Int))=false:=decide_eq_false (by omega)
 obtain⟨b,o,rfl,hc⟩:=h.hcells (by omega)
 have HC:=zH hc
 have W0:=zH (show NwI w (w.alloc (.cells #[.slice none 0 0,.slice none 0 0,.int .i64 0] 86)) w.heap.size (.slice none 0 0) kns 0 (fun _ => .pointer none) (fun _ _=>False) from⟨Blk.new _ _ _,z2a.nil _,fun j hj=>absurd hj (Nat.not_lt_zero j),fun i j hi=>absurd hi (Nat.not_lt_zero i),fun j x hj=>absurd hj (Nat.not_lt_zero j),fun g hg=>(by cases hg),Nat.le_refl _,Nb.rfl.al _⟩)
 clear h hB hc
 go_enter Tryz.func14,Tryz.ntmps14
 go_wp2
 obtain⟨R,hR⟩:∃R,R=w.heap.size:=⟨_,rfl⟩
 have HR:=zH hR
 rw[<- hR]at W0
 rw[<- hR]
 clear hR
 go_loopw [19] (fun ix wr=>∃(k:Nat) (v:Value) (P:Nat->Value) (Fs:Nat->Nat->Prop),k<=kns.length/\ix = .int .i64 k/\NwI w wr R v kns k P Fs) (fun ix _=>kns.length - (intOf ix).toNat)
 case atStart=>exact⟨0,_,_,_,Nat.zero_le _,rfl,W0.out⟩
 case round =>
  obtain⟨k,v,P,Fs,hk,rfl,hI⟩:=hrel
  have I:=zH hI
  clear hI W0
  by_cases hlt:k < kns.length
  ·have hlt':decide ((k:Int) < (kns.length:Int))=true:=decide_eq_true (by omega)
   have cb:wr.cell? ⟨b,o+k,none⟩=some (.bool (kns.getD k false)):=by
    have q:=HC.out k hlt
    rw[I.out.nb.cell (p:=⟨b,o+k,none⟩) (World.block_lt_of_cell? _ _ q)]
    exact q
   have c0:wr.cell? ⟨R,0,none⟩=some v:=I.out.blk.cell 0
   have f0:wr.frozen? ⟨R,0,none⟩=false:=I.out.blk.frozen 0
   have HNW:=zH (fun w' (n:Nb wr w')=>zea (kns.getD k false) w' (HB.out.below (I.out.nb.tr n)))
   obtain⟨kn,hkn⟩:∃kn,kn=kns.getD k false:=⟨_,rfl⟩
   rw[<- hkn]at cb HNW
   have HKN:=zH hkn
   have HOW:=zH (fun w' (n:Nb wr w')=>I.out.own.nb n)
   have HBL:=zH (fun w' (n:Nb wr w')=>I.out.blk.nb n)
   have HNX:=zH (fun w2 w3 v2 p G=>NwI.next (w2:=w2) (w3:=w3) (v2:=v2) (p:=p) (G:=G) I.out)
   have HRl:=I.out.blk.lt
   have HVR:=zH (show v.ownBlock≠some R from fun q=>(I.out.row R q).2 rfl)
   have hll:((List.range k).map P).length=k:=by simp
   clear hkn
   go_wp2_with fail
   have NN:RowKit.Hid (Nb wr wr.drew):=zH (Nb.drewN wr 1)
   have cd:wr.drew.cell? ⟨R,0,none⟩=some v:=(HBL.out _ NN.out).cell 0
   go_region_law (first
    | (refine zbD _ rfl (.tmp 27) (.tmp 30) rfl v ((List.range k).map P) (by simp[Act.eval,Act.put]) ?_ w6.heap.size (.pointer (some ⟨R6,0,none⟩)) (by simp[Act.eval,Act.put]) ?_ rfl (by rw[hll];omega) ?_
       ·exact HOW.out _ (NN.out.al _)
       ·simp
       intro v7 w7 ho hk hg
       obtain⟨a7,cc7,hv7⟩:=ho.shape
       rw[List.length_append,hll,List.length_singleton]at hv7
       subst hv7
       have BB:=zH ((HBL.out _ (NN.out.al _)).keep hk HVR.out)
       have c7:w7.cell? ⟨R,0,none⟩=some v:=BB.out.cell 0
       have f7:w7.frozen? ⟨R,0,none⟩=false:=BB.out.frozen 0
       have XX:=zH (HNX.out _ w7 _ _ G6 (NN.out.al _) (z0G M6.out (Kp.ofNb (F:=fun _=>False) (Nb.rfl.al _)) (fun _ _ q=>q)) G6N.out hk.size ho hk hg)
       clear ho hk hg)
    | (go_simp
       go_at_call 28
       refine(HNW.out _ NN.out).mono ?_
       rintro e w6 ⟨p6,G6,rfl,m6,g6,n6⟩
       obtain⟨R6,rfl⟩:=zgK m6
       have M6:=zH (show z0N w6 (.pointer (some ⟨R6,0,none⟩)) (Nd.new (kns.getD k false)) G6 by rw[<- HKN.out];exact m6)
       have G6N:=zH (show ∀x,G6 x->wr.heap.size<=x from fun x hx=>Nat.le_trans NN.out.size (g6 x hx))
       have NN:=zH (NN.out.tr n6)
       have c6:w6.cell? ⟨R,0,none⟩=some v:=(HBL.out _ NN.out).cell 0
       have r6:R < w6.heap.size:=Nat.lt_of_lt_of_le HRl NN.out.size
       clear m6 g6 n6))
   all_goals go_wp2
   all_goals go_roundw
   all_goals first
    | exact⟨k+1,_,_,_,by omega,by go_num,XX.out⟩
    | (simp[intOf];omega)
  ·have hlt':decide ((k:Int) < (kns.length:Int))=false:=decide_eq_false (by omega)
   obtain rfl:k=kns.length:=by omega
   obtain⟨F,q1,q2,q3⟩:=FIN.out _ _ _ _ _ I.out
   have Q1:=zH q1
   have Q2:=zH q2
   have Q3:=zH q3
   clear q1 q2 q3
   go_wp2
   go_ret2
   exact⟨R,F,rfl,Q1.out,Q2.out,Q3.out⟩
theorem z7S (v:Value) (ns:List Nd) (line:List Nat) (F:Nat->Prop) (i:Nat) (f:Hd) (a:Option Addr) (cap:Nat) (l:List Nat) (w:World) (h:z2X w v ns line F) (hO:z26 ns) (hB:z0i w) (hi:i < ns.length) (hbs:Bs w a cap l) (hn:a=none->cap=0) (hW:WdX f) :
    Calls Tryz.prog 15 #[v,.int .i64 (i:Nat),.agg (f.cs (.slice a l.length cap))] w (zlj z2X w v (ns.set i ((ns.getD i dN).load f l)) line (.int .i64 ((ns.getD i dN).loadE f l:Nat)) F):=by
 obtain⟨R,N,cp,bv,nx,P,Fs,rfl,M⟩:=h
 have HA:=zH (fun w' (k:Nb w w')=>zi2 R N cp bv nx P Fs ns line F i w' (M.nb k) hi)
 have HC:=zH (fun w1 (n1:Nb w w1)=>(show Calls Tryz.prog 30 #[P i,.agg (f.cs (.slice a l.length cap))] w1 (fun e w2=>e = .returned (.int .i64 ((ns.getD i dN).loadE f l:Nat))/\∃F',z2X w2 (.pointer (some ⟨R,0,none⟩)) (ns.set i ((ns.getD i dN).load f l)) line F'/\Kp F w w2/\∀k,F' k->F k\/w.heap.size<=k)from by
  have M1:=M.nb n1
  refine(zbV (P i) (ns.getD i dN) (Fs i) f a cap l w1 (M1.nds.has i hi) (hO i hi) (hB.below n1) (hbs.below n1) hn hW).mono ?_
  rintro e w2 ⟨F',rfl,g1,g2,g3⟩
  refine⟨rfl,_,⟨R,N,cp,bv,nx,P,_,rfl,M1.turn i hi g1 g2 g3⟩,(Kp.ofNb (F:=F) n1).tr (g2.mono (F':=F) (fun k _ hk=>(M.fs i k hi hk).1)) (fun k hk => .inl hk),fun k hk => ?_⟩
  rcases hk with q | q
  ·exact .inl q
  ·rcases g3 k q with r | r
   ·exact .inl (M.fs i k hi r).1
   ·exact .inr (Nat.le_trans n1.size r)))
 generalize P i=p at HA HC
 obtain⟨er,her⟩:∃er,er=(ns.getD i dN).loadE f l:=⟨_,rfl⟩
 rw[<- her]at HC ⊢
 obtain⟨K,I,X,Rr,B,E,S,Dd,V,A⟩:=f
 simp only[Hd.cs]at HC ⊢
 clear M hO hB hi hbs hn hW her
 go_enter Tryz.func15,Tryz.ntmps15
 go_wp2_with fail
 refine(HA.out _ (Nb.rfl.al _)).mono ?_
 rintro e w1 ⟨rfl,n1⟩
 have N1:=zH ((Nb.rfl.al _).tr n1)
 have X1:=zH ((Blk.new w #[.int .i64 K,.int .u32 I,.bool X,.bool Rr,.bool B,.bool E,.bool S,.int .u8 Dd,.int .u8 V,.int .u32 A,.slice a l.length cap] 37).nb n1)
 clear n1 HA
 obtain⟨x0,x1,x2,x3,x4,x5,x6,x7,x8,x9,x10⟩:=Blk.c11 X1.out
 go_wp2_with fail
 refine(HC.out _ N1.out).mono ?_
 rintro e w2 ⟨rfl,F',g1,g2,g3⟩
 have G1:=zH g1
 have G2:=zH g2
 have G3:=zH g3
 clear g1 g2 g3 HC x0 x1 x2 x3 x4 x5 x6 x7 x8 x9 x10
 go_wp2
 go_ret
 exact⟨F',rfl,G1.out,G2.out,G3.out⟩
theorem SmI.step {w3:World} {cap:Nat} {bv':Value} {nx':Nat} {line:List Nat} (M:zcQ w R N cap bv nx P Fs ns line F)
    (b1:Blk w2 R #[.slice (some ⟨N,0,none⟩) ns.length cap,bv',.int .i64 (nx':Nat)] 86) (b2:zhS w2 bv' nx' (z6d (line++[z3e ns]))) (b3:Kp (fun k=>k=R\/bv.ownBlock=some k) w w2) (b4:∀g,bv'.ownBlock=some g->bv.ownBlock=some g\/w.heap.size<=g)
    (S:SmI w2 w3 N w2.heap.size ns (z3e ns) t P Fs ns.length) (hs:w2.heap.size < w3.heap.size) :
    ∃F' Pd,z40 w3 (some ⟨w2.heap.size,0,none⟩) ns.length (z51 ns t) Pd/\(∀k,Pd k->k < w3.heap.size/\¬F' k/\(F k\/w.heap.size<=k))/\z2X w3 (.pointer (some ⟨R,0,none⟩)) (z2I ns t) (z6d (line++[z3e ns])) F'/\Kp F w w3/\∀k,F' k->F k\/w.heap.size<=k:=by
 obtain⟨Fk,D,s1,s2,s3,s4,s5,s6⟩:=S
 have hn:z8m ns (z3e ns) t ns.length=z2I ns t:=zg4 ns (z3e ns) t
 rw[hn]at s1
 have hl:(z2I ns t).length=ns.length:=z30 ns t
 have hle:(z51 ns t).length=ns.length:=z4T ns t
 have z1:=b3.size
 have hRlt:=M.lt R M.fR
 have hNlt:=M.lt N M.fN
 have hFs:∀j k,j < ns.length->Fs j k->k < w.heap.size/\F k/\k≠R:=fun j k hj hf=>⟨M.lt k (M.fs j k hj hf).1,(M.fs j k hj hf).1,(M.fs j k hj hf).2⟩
 have gN:∀g,bv'.ownBlock=some g->g≠R/\g≠N/\g < w2.heap.size/\(∀j,j < ns.length->¬Fs j g):=fun g hg=>by
  obtain⟨bits,o1,_⟩:=b2
  have hgl:=o1.lt hg
  rcases b4 g hg with q | q
  ·obtain⟨q1,q2,q3,q4⟩:=M.fb g q
   exact⟨q2,q3,hgl,q4⟩
  ·exact⟨by omega,by omega,hgl,fun j hj hf=>by have:=(hFs j g hj hf).1;omega⟩
 have kn:∀x,(∃j,j < ns.length/\Fs j x)->x≠R/\bv'.ownBlock≠some x:=fun x ⟨j,hj,hf⟩=>⟨(hFs j x hj hf).2.2,fun e=>(gN x e).2.2.2 j hj hf⟩
 refine⟨fun k=>k=R\/k=N\/bv'.ownBlock=some k\/∃j,j < ns.length/\Fk j k,fun k=>k=w2.heap.size\/D k,⟨by omega,by rw[<- hle];have:=M.n16;unfold maxLen;omega,fun h0=>⟨w2.heap.size,rfl,.inl rfl,fun j hj => ?_⟩⟩,fun k hk => ?_,⟨R,N,cap,bv',nx',P,Fk,rfl,⟨?_,s1,b2.keep s6 (fun g hg q=>(kn g q).2 hg),.inl rfl,.inr (.inl rfl),M.rn,fun j k hj hf => ?_,fun g hg => ?_,fun k hk => ?_,by rw[hl];exact M.n1,by rw[hl];exact M.n16,by rw[hl];exact M.hcap,fun k hk => ?_,?_⟩⟩,?_,fun k hk => ?_⟩
 ·obtain⟨a',c',e1,e2,e3⟩:=s3 j (by omega)
  exact⟨a',c',e1,e2,fun b' o s q hl => .inr (e3 b' o s q hl)⟩
 ·rcases hk with rfl | hk
  ·refine⟨hs,fun q => ?_,.inr z1⟩
   rcases q with q | q | q | ⟨j,hj,hf⟩
   ·omega
   ·omega
   ·have:=(gN _ q).2.2.1;omega
   ·rcases s2 j _ hj hf with r | r
    ·have:=(hFs j _ hj r).1;omega
    ·omega
  ·obtain⟨d1,d2,d3,d4⟩:=s5 k hk
   refine⟨d1,fun q => ?_,?_⟩
   ·rcases q with q | q | q | ⟨j,hj,hf⟩
    ·subst q
     rcases d4 with ⟨j,hj,hf⟩ | r
     ·exact(hFs j _ hj hf).2.2 rfl
     ·omega
    ·subst q
     rcases d4 with ⟨j,hj,hf⟩ | r
     ·exact M.nds.own j _ hj hf rfl
     ·omega
    ·obtain⟨q1,q2,q3,q4⟩:=gN k q
     rcases d4 with ⟨j,hj,hf⟩ | r
     ·exact q4 j hj hf
     ·omega
    ·exact d3 j hj hf
   ·rcases d4 with ⟨j,hj,hf⟩ | r
    ·exact .inl (hFs j k hj hf).2.1
    ·exact .inr (Nat.le_trans z1 r)
 ·rw[hl]
  exact b1.keep s6 (fun q=>(kn R q).1 rfl)
 ·rw[hl]at hj
  refine⟨.inr (.inr (.inr ⟨j,hj,hf⟩)),fun e => ?_⟩
  subst e
  rcases s2 j _ hj hf with r | r
  ·exact(hFs j _ hj r).2.2 rfl
  ·omega
 ·obtain⟨q1,q2,q3,q4⟩:=gN g hg
  refine⟨.inr (.inr (.inl hg)),q1,q2,fun j hj hf => ?_⟩
  rw[hl]at hj
  rcases s2 j _ hj hf with r | r
  ·exact q4 j hj r
  ·omega
 ·rcases hk with rfl | rfl | hk | ⟨j,hj,hf⟩
  ·omega
  ·omega
  ·have:=(gN k hk).2.2.1;omega
  ·exact s1.lt (by rw[hl];exact hj) hf
 ·have ht:=M.tl
  rcases hk with rfl | rfl | hk | ⟨j,hj,hf⟩
  ·exact M.tb _ M.fR
  ·exact M.tb _ M.fN
  ·rcases b4 k hk with r | r
   ·exact M.tb _ (M.fb k r).1
   ·exact⟨by omega,by omega⟩
  ·rcases s2 j _ hj hf with r | r
   ·exact M.tb _ (hFs j k hj r).2.1
   ·exact⟨by omega,by omega⟩
 ·have ht:=M.tl
  exact⟨by omega,by omega⟩
 ·refine(b3.mono (F':=F) (fun k _ hk => ?_)).tr s6 (fun k hk => ?_)
  ·rcases hk with rfl | hk
   ·exact M.fR
   ·exact(M.fb k hk).1
  ·obtain⟨j,hj,hf⟩:=hk
   exact .inl (hFs j k hj hf).2.1
 ·rcases hk with rfl | rfl | hk | ⟨j,hj,hf⟩
  ·exact .inl M.fR
  ·exact .inl M.fN
  ·rcases b4 k hk with r | r
   ·exact .inl (M.fb k r).1
   ·exact .inr r
  ·rcases s2 j _ hj hf with r | r
   ·exact .inl (hFs j k hj r).2.1
   ·exact .inr (by omega)
theorem z5d (v:Value) (ns:List Nd) (line:List Nat) (F:Nat->Prop) (t:Nat) (w:World) (h:z2X w v ns line F) (hO:z26 ns) (hx:za5 60100 ns) (hB:z0i w) (ht:t < 2^ns.length) :
    Calls Tryz.prog 16 #[v,.int .u32 (t:Nat)] w (zlz z2X w v ns line t F):=by
 obtain⟨R,N,cap,bv,nx,P,Fs,rfl,M⟩:=h
 have h16:=M.n16
 have h1:=M.n1
 have ht32:t < 4294967296:=Nat.lt_of_lt_of_le ht (Nat.le_trans (Nat.pow_le_pow_right (by omega) (show ns.length<=32 by omega)) (by decide))
 have c0:w.cell? ⟨R,0,none⟩=some (.slice (some ⟨N,0,none⟩) ns.length cap):=M.blk.cell 0
 have d1:(((t:Int) / 2^ns.length) != 0)=false:=by
  rw[bne_eq_false_iff_eq]
  have:((t:Int) / 2^ns.length)=((t / 2^ns.length:Nat):Int):=by push_cast;rfl
  rw[this,Nat.div_eq_of_lt ht]
  rfl
 have HAL:=zH (zhG N cap P Fs ns w M.nds h16 h1 hO hB)
 have MM:=zH M
 have HO:=zH hO
 have HX:=zH hx
 have HB:=zH hB
 have hout:∀x∈ns.map Nd.out,x<=1:=fun x hx=>by
  obtain⟨n,hn,rfl⟩:=List.mem_map.1 hx
  obtain⟨j,hj,rfl⟩:=List.getElem_of_mem hn
  have:=zic (hO j hj)
  rwa[show ns.getD j dN=ns[j] by simp[List.getD,hj]]at this
 have HOT:=zH hout
 have hml:(ns.map Nd.out).length=ns.length:=by simp
 have BV:=zH (zdT ns)
 clear M hO hx hB hout
 go_enter Tryz.func16,Tryz.ntmps16
 go_wp2_with fail
 refine HAL.out.mono ?_
 rintro e w1 ⟨⟨g,rfl,b1⟩,n1⟩
 have N1:=zH n1
 have HWI:=zH (show Calls Tryz.prog 31 #[.slice (some ⟨g,0,none⟩) ns.length ns.length] w1 fun e w'=>e = .returned (.int .u8 (z3e ns:Nat))/\Nb w1 w' from by
  have q:=zeE g 0 ns.length (ns.map Nd.out) w1 b1 (by omega) HOT.out
  rw[hml]at q
  exact q)
 obtain⟨L,hL⟩:∃L,L=z3e ns:=⟨_,rfl⟩
 rw[<- hL]at HWI BV
 have HLE:=zH hL
 clear n1 b1 HAL hL
 go_wp2_with fail
 refine HWI.out.mono ?_
 rintro e w2 ⟨rfl,n2⟩
 have N2:=zH (N1.out.tr n2)
 have M2:=zH (MM.out.nb N2.out)
 have hbvR:bv.ownBlock≠some R:=fun e=>(MM.out.fb R e).2.1 rfl
 have HLA:=zH (zhH R (.slice (some ⟨N,0,none⟩) ns.length cap) bv nx line L w2 M2.out.blk M2.out.ln hbvR BV.out)
 clear n2 HWI c0 hbvR N1
 go_wp2_with fail
 refine HLA.out.mono ?_
 rintro e w3 ⟨rfl,bv',nx',q1,q2,q3,q4⟩
 have c0:w3.cell? ⟨R,0,none⟩=some (.slice (some ⟨N,0,none⟩) ns.length cap):=q1.cell 0
 have nN:¬(N=R\/bv.ownBlock=some N):=fun q=>q.elim (fun e=>M2.out.rn e.symm) (fun e=>(M2.out.fb N e).2.2.1 rfl)
 have nFs:∀j k,j < ns.length->Fs j k->¬(k=R\/bv.ownBlock=some k):=fun j k hj hf q=>q.elim (M2.out.fs j k hj hf).2 (fun e=>(M2.out.fb k e).2.2.2 j hj hf)
 have nd3:=M2.out.nds.keep q3 nN nFs
 have hBk:∀w',Kp (fun x=>∃j,j < ns.length/\Fs j x) w3 w'->z0i w':=fun w' kk=>by
  have b3:z0i w3:=(HB.out.below N2.out).keep q3 (fun q=>q.elim (fun e=>(M2.out.tb _ M2.out.fR).1 e.symm) (fun e=>(M2.out.tb _ (M2.out.fb _ e).1).1 rfl)) (fun q=>q.elim (fun e=>(M2.out.tb _ M2.out.fR).2 e.symm) (fun e=>(M2.out.tb _ (M2.out.fb _ e).1).2 rfl))
  exact b3.keep kk (fun⟨j,hj,hf⟩=>(M2.out.tb _ (M2.out.fs j _ hj hf).1).1 rfl) (fun⟨j,hj,hf⟩=>(M2.out.tb _ (M2.out.fs j _ hj hf).1).2 rfl)
 have hNl:N < w3.heap.size:=Nat.lt_of_lt_of_le (M2.out.lt N M2.out.fN) q3.size
 have HSM:=zH (z8U N cap P Fs ns L t w3 nd3 hNl h16 HO.out HX.out hBk BV.out ht32)
 have Q1:=zH q1
 have Q2:=zH q2
 have Q3:=zH q3
 have Q4:=zH q4
 clear q1 q2 q3 q4 nN nFs nd3 hBk hNl HLA
 go_wp2_with fail
 refine HSM.out.mono ?_
 rintro e w4 ⟨rfl,S,hs⟩
 have FIN:=zH (SmI.step M2.out Q1.out (by rw[<- HLE.out];exact Q2.out) Q3.out Q4.out (by rw[<- HLE.out];exact S) hs)
 clear S hs HSM c0
 go_wp2
 go_ret2
 obtain⟨F',Pd,z1,z2,z3,z4,z5⟩:=FIN.out
 refine⟨F',some ⟨w3.heap.size,0,none⟩,ns.length,Pd,(by rw[z4T];rfl),z1,fun k hk => ?_,z3,(Kp.ofNb (F:=F) N2.out).tr z4 (fun k hk => .inl hk),fun k hk=>(z5 k hk).imp id (fun q=>Nat.le_trans N2.out.size q)⟩
 obtain⟨y1,y2,y3⟩:=z2 k hk
 exact⟨y1,y2,y3.imp id (fun q=>Nat.le_trans N2.out.size q)⟩
theorem zmn{x:Nat}{p q:Bool}{t:TypeId}(h:Blk w x #[.bool p,.bool q] t):Bls w (some ⟨x,0,none⟩) 2 [p,q]:=by
 refine⟨Nat.le_refl _,by simp[maxLen],fun _=>⟨x,0,rfl,fun j hj => ?_⟩⟩
 have c0:w.cell? ⟨x,0,none⟩=some (.bool p):=h.cell 0
 have c1:w.cell? ⟨x,1,none⟩=some (.bool q):=h.cell 1
 rcases(by simp at hj;omega:j=0\/j=1)with rfl | rfl
 ·exact c0
 ·exact c1
theorem zh2(p q:Bool)(x:Nat)(t:TypeId)(w:World)(h:Blk w x #[.bool p,.bool q] t)(hB:z0i w):Calls Tryz.prog 14 #[.slice (some ⟨x,0,none⟩) 2 2] w (zm8 z2X w [p,q]) :=
 zaY (some ⟨x,0,none⟩) 2 [p,q] w (zmn h) hB (by simp) (by simp)
def z4r(w w':World)(v:Value)(ns:List Nd)(line:List Nat):Prop:=∃F,z2X w' v ns line F/\(∀k,F k->w.heap.size<=k)/\Nb w w'
theorem z4r.keep{line:List Nat}(h:z4r w w1 v ns line)(hb:Nb w1 w2):z4r w w2 v ns line:=by
 obtain⟨F,h1,h2,h3⟩:=h
 exact⟨F,z57 h1 (Kp.ofNb (F:=fun _=>False) hb) (by simp),h2,h3.tr hb⟩
theorem z4r.nb{line:List Nat}(h:z4r w w1 v ns line):Nb w w1:=by
 obtain⟨_,_,_,h3⟩:=h
 exact h3
theorem z4r.turn{line':List Nat}(hF:∀k,F k->w.heap.size<=k)(N:Nb w w1)(g1:z2X w2 v ms line' F')(g2:Kp F w1 w2)(g3:∀k,F' k->F k\/w1.heap.size<=k):z4r w w2 v ms line' :=
 ⟨F',g1,fun j hj=>by
  rcases g3 j hj with h | h
  ·exact hF j h
  ·exact Nat.le_trans N.size h,N.trans (g2.toBelow N.size hF)⟩
theorem z4r.step {line:List Nat} (t:Nat) (h:z4r w w' v ns line) (hO:z26 ns) (hx:za5 60100 ns) (hB:z0i w') (ht:t < 2^ns.length) :
    Calls Tryz.prog 16 #[v,.int .u32 (t:Nat)] w' fun e w2=>∃a c P,e = .returned (.tuple #[.slice a (z51 ns t).length c,.int .i64 0])/\z40 w2 a c (z51 ns t) P/\z4r w w2 v (z2I ns t) (z6d (line++[z3e ns])):=by
 obtain⟨F,h1,h2,h3⟩:=h
 refine(z5d v ns line F t w' h1 hO hx hB ht).mono ?_
 rintro e w2 ⟨F',a,c,P,rfl,g0,_,g1,g2,g3⟩
 exact⟨a,c,P,rfl,g0,z4r.turn h2 h3 g1 g2 g3⟩
theorem z4r.load {w w':World} {v:Value} {ns:List Nd} {line:List Nat} (i:Nat) (f:Hd) (a:Option Addr) (cap:Nat) (l:List Nat) (h:z4r w w' v ns line) (hO:z26 ns) (hB:z0i w') (hi:i < ns.length) (hbs:Bs w' a cap l) (hn:a=none->cap=0) (hW:WdX f) :
    Calls Tryz.prog 15 #[v,.int .i64 (i:Nat),.agg (f.cs (.slice a l.length cap))] w' fun e w2=>e = .returned (.int .i64 ((ns.getD i dN).loadE f l:Nat))/\z4r w w2 v (ns.set i ((ns.getD i dN).load f l)) line:=by
 obtain⟨F,h1,h2,h3⟩:=h
 refine(z7S v ns line F i f a cap l w' h1 hO hB hi hbs hn hW).mono ?_
 rintro e w2 ⟨F',rfl,g1,g2,g3⟩
 exact⟨rfl,z4r.turn h2 h3 g1 g2 g3⟩
theorem z4r.state {line:List Nat} (i:Nat) (h:z4r w w' v ns line) (hO:z26 ns) (hB:z0i w') (hi:i < ns.length) :
    Calls Tryz.prog 10 #[v,.int .i64 (i:Nat)] w' fun e w2=>e = .returned (.tuple #[stV (ns.getD i dN),.int .i64 0])/\Nb w' w2:=by
 obtain⟨F,h1,_,_⟩:=h
 exact zcF v ns line F i w' h1 hO hB hi
theorem z4r.line {line:List Nat} (h:z4r w w' v ns line) (h0:0 < line.length) :
    Calls Tryz.prog 11 #[v] w' fun e w2=>∃a c,e = .returned (.slice a line.length c)/\Bs w2 a c line/\Nb w' w2:=by
 obtain⟨F,h1,_,_⟩:=h
 refine(zeH v ns line F w' h1 h0).mono ?_
 rintro e w2 ⟨a,c,rfl,g1,_,g2⟩
 exact⟨a,c,rfl,g1,g2⟩
def z3a(w w':World)(v:Value)(ns:List Nd)(line:List Nat)(X:Nat->Prop):Prop:=∃F,z2X w' v ns line F/\(∀k,F k->w.heap.size<=k/\¬X k)/\(∀k,X k->k < w'.heap.size)/\Nb w w'
theorem z3a.of{line:List Nat}(h:z4r w w' v ns line):z3a w w' v ns line (fun _=>False):=by
 obtain⟨F,h1,h2,h3⟩:=h
 exact⟨F,h1,fun k hk=>⟨h2 k hk,fun q=>q⟩,fun _ q=>q.elim,h3⟩
theorem z3a.n{line:List Nat}(h:z3a w w' v ns line X):z4r w w' v ns line:=by
 obtain⟨F,h1,h2,_,h3⟩:=h
 exact⟨F,h1,fun k hk=>(h2 k hk).1,h3⟩
theorem z3a.nb{w w':World}{v:Value}{ns:List Nd}{line:List Nat}{X:Nat->Prop}(h:z3a w w' v ns line X):Nb w w':=h.n.nb
theorem z3a.keep{line:List Nat}(h:z3a w w1 v ns line X)(hb:Nb w1 w2):z3a w w2 v ns line X:=by
 obtain⟨F,h1,h2,h3,h4⟩:=h
 exact⟨F,z57 h1 (Kp.ofNb (F:=fun _=>False) hb) (by simp),h2,fun k hk=>Nat.lt_of_lt_of_le (h3 k hk) hb.size,h4.tr hb⟩
theorem z3a.add{line:List Nat}(h:z3a w w1 v ns line X)(hb:Nb w1 w2)(hY:∀k,Y k->w1.heap.size<=k/\k < w2.heap.size):z3a w w2 v ns line (fun k=>X k\/Y k):=by
 obtain⟨F,h1,h2,h3,h4⟩:=h
 refine⟨F,z57 h1 (Kp.ofNb (F:=fun _=>False) hb) (by simp),fun k hk=>⟨(h2 k hk).1,fun q => ?_⟩,fun k hk => ?_,h4.tr hb⟩
 ·rcases q with q | q
  ·exact(h2 k hk).2 q
  ·have:=zi5 h1 k hk
   have:=(hY k q).1
   omega
 ·rcases hk with q | q
  ·exact Nat.lt_of_lt_of_le (h3 k q) hb.size
  ·exact(hY k q).2
theorem z3a.less{line:List Nat}(h:z3a w w' v ns line X)(hY:∀k,Y k->X k):z3a w w' v ns line Y:=by
 obtain⟨F,h1,h2,h3,h4⟩:=h
 exact⟨F,h1,fun k hk=>⟨(h2 k hk).1,fun q=>(h2 k hk).2 (hY k q)⟩,fun k hk=>h3 k (hY k hk),h4⟩
theorem z3a.load {w w':World} {v:Value} {ns:List Nd} {line:List Nat} {X:Nat->Prop} (i:Nat) (f:Hd) (a:Option Addr) (cap:Nat) (l:List Nat) (h:z3a w w' v ns line X) (hO:z26 ns) (hB:z0i w') (hi:i < ns.length) (hbs:Bs w' a cap l) (hn:a=none->cap=0) (hW:WdX f) :
    Calls Tryz.prog 15 #[v,.int .i64 (i:Nat),.agg (f.cs (.slice a l.length cap))] w' fun e w2=>∃G,e = .returned (.int .i64 ((ns.getD i dN).loadE f l:Nat))/\Kp G w' w2/\(∀k,X k->¬G k)/\z3a w w2 v (ns.set i ((ns.getD i dN).load f l)) line X:=by
 obtain⟨F,h1,h2,h3,h4⟩:=h
 refine(z7S v ns line F i f a cap l w' h1 hO hB hi hbs hn hW).mono ?_
 rintro e w2 ⟨F',rfl,g1,g2,g3⟩
 refine⟨F,rfl,g2,fun k hk hf=>(h2 k hf).2 hk,F',g1,fun k hk=>⟨?_,fun q => ?_⟩,fun k q=>Nat.lt_of_lt_of_le (h3 k q) g2.size,h4.trans (g2.toBelow h4.size (fun k hk=>(h2 k hk).1))⟩
 ·rcases g3 k hk with q | q
  ·exact(h2 k q).1
  ·exact Nat.le_trans h4.size q
 ·rcases g3 k hk with r | r
  ·exact(h2 k r).2 q
  ·have:=h3 k q
   omega
def z6x:Hd:=⟨1,9,false,false,false,false,false,0,0,0⟩
theorem z95:WdX z6x:=by simp only[WdX,z6x];omega
def lvN:Nat->List Nd
 | 0=>[(Nd.new true).load z6x [],Nd.new false]
 | k+1=>z2I (lvN k) 0
def lvS(k:Nat):Nat:=((List.range k).filter fun j=>((z51 (lvN j) 0).getD 0 z02).k==1).length
def lvG(k:Nat):Nat:=((List.range k).filter fun j=>((z51 (lvN j) 0).getD 1 z02).k==2).length
theorem zfp:(Nd.new true).loadE z6x []=0:=by decide +kernel
theorem zaJ:lvS 80=1/\lvG 80=1:=by decide +kernel
theorem z9M(k:Nat):(lvN k).length=2:=by
 induction k with
 | zero=>rfl
 | succ k ih=>rw[lvN,z30,ih]
theorem zkC(k:Nat):z26 (lvN k):=by
 induction k with
 | zero =>
   intro j hj
   rcases(by rw[z9M]at hj;omega:j=0\/j=1)with rfl | rfl
   ·exact zdc (l:=[]) (z6n true) z95 (by simp) (fun h=>by cases h)
   ·exact z6n false
 | succ k ih=>exact ih.next 0
theorem zlx(k:Nat):za5 k (lvN k):=by
 induction k with
 | zero =>
   intro j hj
   rcases(by rw[z9M]at hj;omega:j=0\/j=1)with rfl | rfl<;>exact Nat.le_of_eq rfl
 | succ k ih =>
   intro j hj
   rw[lvN,z30]at hj
   rw[lvN,z5h _ _ hj]
   have:=zaR ((lvN k).getD j dN) (z5z (z3e (lvN k)) 0 j)
   have:=ih j hj
   omega
theorem zgh(k:Nat):lvS (k+1)=lvS k+(if((z51 (lvN k) 0).getD 0 z02).k=1 then 1 else 0)/\lvG (k+1)=lvG k+(if((z51 (lvN k) 0).getD 1 z02).k=2 then 1 else 0):=by
 unfold lvS lvG
 rw[List.range_succ,List.filter_append,List.filter_append,List.length_append,List.length_append]
 constructor
 ·by_cases h:((z51 (lvN k) 0).getD 0 z02).k=1
  ·rw[if_pos h,List.filter_cons,if_pos (by rw[beq_iff_eq];exact h)];rfl
  ·rw[if_neg h,List.filter_cons,if_neg (by rw[beq_iff_eq];exact h)];rfl
 ·by_cases h:((z51 (lvN k) 0).getD 1 z02).k=2
  ·rw[if_pos h,List.filter_cons,if_pos (by rw[beq_iff_eq];exact h)];rfl
  ·rw[if_neg h,List.filter_cons,if_neg (by rw[beq_iff_eq];exact h)];rfl
theorem zkQ(k:Nat):lvS k<=k/\lvG k<=k:=by
 unfold lvS lvG
 exact⟨Nat.le_trans (List.length_filter_le _ _) (by simp),Nat.le_trans (List.length_filter_le _ _) (by simp)⟩
theorem ziS(w:World)(hB:z0i w):Calls Tryz.prog 5 #[] w fun e w'=>e = .returned (.bool true)/\Nb w w':=by
 have HB:=zH hB
 clear hB
 go_enter Tryz.func5,Tryz.ntmps5
 go_wp2_with fail
 refine(zh2 true false w.heap.size _ _ (Blk.new _ _ _) (HB.out.below (Nb.rfl.al _))).mono ?_
 rintro e w1 ⟨R,F,rfl,h1,h2,h3⟩
 have hN1:z4r w w1 (.pointer (some ⟨R,0,none⟩)) [Nd.new true,Nd.new false] []:=⟨F,h1,fun k hk=>Nat.le_trans (Nb.rfl.al _).size (h2 k hk),(Nb.rfl.al _).tr h3⟩
 have hok:z26 [Nd.new true,Nd.new false]:=fun j hj=>by
  rcases(by simp at hj;omega:j=0\/j=1)with rfl | rfl
  ·exact z6n true
  ·exact z6n false
 have hl:=hN1.load 0 z6x none 0 [] hok (HB.out.below hN1.nb) (by simp) (Bs.nil _) (fun _=>rfl) z95
 rw[show(([Nd.new true,Nd.new false]:List Nd).getD 0 dN).loadE z6x []=0 from zfp]at hl
 have hl2:Calls Tryz.prog 15 #[.pointer (some ⟨R,0,none⟩),.int .i64 0,.agg #[.int .i64 1,.int .u32 9,.bool false,.bool false,.bool false,.bool false,.bool false,.int .u8 0,.int .u8 0,.int .u32 0,.slice none 0 0]] w1 fun e w2=>e = .returned (.int .i64 0)/\z4r w w2 (.pointer (some ⟨R,0,none⟩)) (lvN 0) []:=hl
 have HL:=zH hl2
 clear hl hl2 h1 h2 h3 hN1 hok
 go_wp2_with fail
 refine HL.out.mono ?_
 rintro e w2 ⟨rfl,n2⟩
 have N2:=zH n2
 clear n2 HL
 go_wp2
 go_loopw [3,4,24] (fun sv gv ix wr=>∃(k:Nat) (line:List Nat),k<=80/\line.length=k/\ix = .int .i64 k/\sv = .int .i64 (lvS k:Nat)/\gv = .int .i64 (lvG k:Nat)/\z4r w wr (.pointer (some ⟨R,0,none⟩)) (lvN k) line) (fun _ _ ix _=>80 - (intOf ix).toNat)
 case atStart=>exact⟨0,[],by omega,rfl,rfl,rfl,rfl,N2.out⟩
 case round =>
  obtain⟨k,line,hk,hlen,rfl,rfl,rfl,hN⟩:=hrel
  have N:=zH hN
  have HLEN:=zH hlen
  have HB5:=zH (HB.out.below hN.nb)
  clear hN N2 hlen
  by_cases hlt:k < 80
  ·have hlt':(k:Int) < 80:=by omega
   have hst:=N.out.step 0 (zkC k) (fun j hj=>Nat.le_trans (zlx k j hj) (by omega)) HB5.out (Nat.pow_pos (by omega))
   have hl2:(z51 (lvN k) 0).length=2:=by rw[z4T,z9M]
   obtain⟨q1,q2⟩:=zgh k
   have hnx:z2I (lvN k) 0=lvN (k+1):=rfl
   obtain⟨b1,b2⟩:=zkQ k
   rw[hnx]at hst
   generalize z51 (lvN k) 0=es at hst hl2 q1 q2
   obtain⟨⟨k0,r0,⟨K0,I0,X0,R0,B0,E0,S0,D0,V0,A0⟩,l0⟩,h0⟩:∃e,es.getD 0 z02=e:=⟨_,rfl⟩
   obtain⟨⟨k1,r1,⟨K1,I1,X1,R1,B1,E1,S1,D1,V1,A1⟩,l1⟩,h1⟩:∃e,es.getD 1 z02=e:=⟨_,rfl⟩
   rw[h0]at q1
   rw[h1]at q2
   simp only at q1 q2
   have H0:=zH h0
   have H1:=zH h1
   have HL2:=zH hl2
   rw[hl2]at hst
   have Q1:=zH q1
   have Q2:=zH q2
   have HST:=zH hst
   generalize lvS k=s at *
   generalize lvG k=g at *
   clear hst h0 h1 hl2 q1 q2 hnx
   go_wp2_with fail
   refine HST.out.mono ?_
   rintro e w3 ⟨a,c,P,rfl,hE,hN3⟩
   obtain⟨bE,hbe,_,_⟩:=hE.hcells (by rw[HL2.out];omega)
   subst hbe
   obtain⟨_,_,⟨x0,_⟩,_⟩:=hE.at (j:=0) (by rw[HL2.out];omega) H0.out
   obtain⟨_,_,⟨y0,_⟩,_⟩:=hE.at (j:=1) (by rw[HL2.out];omega) H1.out
   have N3:=zH hN3
   have HL3:=zH (show(z6d (line++[z3e (lvN k)])).length=k+1 by unfold z6d;rw[List.length_drop,List.length_append,HLEN.out];simp;omega)
   simp only[Nat.zero_mul]at x0
   clear hE hN3 HST
   by_cases c0:k0=1
   ·have d0:(((k0:Nat):Int)==1)=true:=by rw[beq_iff_eq];omega
    have P1:=zH (show lvS (k+1)=s+1 by rw[Q1.out,if_pos c0])
    clear c0 Q1
    by_cases c1:k1=2
    ·have d1:(((k1:Nat):Int)==2)=true:=by rw[beq_iff_eq];omega
     have P2:=zH (show lvG (k+1)=g+1 by rw[Q2.out,if_pos c1])
     clear c1 Q2
     go_wp2
     go_roundw
     case rel=>exact⟨k+1,_,by omega,HL3.out,by go_num,by rw[P1.out];go_num,by rw[P2.out];go_num,N3.out⟩
     case measure=>simp[intOf];omega
    ·have d1:(((k1:Nat):Int)==2)=false:=by rw[beq_eq_false_iff_ne];omega
     have P2:=zH (show lvG (k+1)=g by rw[Q2.out,if_neg c1,Nat.add_zero])
     clear c1 Q2
     go_wp2
     go_roundw
     case rel=>exact⟨k+1,_,by omega,HL3.out,by go_num,by rw[P1.out];go_num,by rw[P2.out],N3.out⟩
     case measure=>simp[intOf];omega
   ·have d0:(((k0:Nat):Int)==1)=false:=by rw[beq_eq_false_iff_ne];omega
    have P1:=zH (show lvS (k+1)=s by rw[Q1.out,if_neg c0,Nat.add_zero])
    clear c0 Q1
    by_cases c1:k1=2
    ·have d1:(((k1:Nat):Int)==2)=true:=by rw[beq_iff_eq];omega
     have P2:=zH (show lvG (k+1)=g+1 by rw[Q2.out,if_pos c1])
     clear c1 Q2
     go_wp2
     go_roundw
     case rel=>exact⟨k+1,_,by omega,HL3.out,by go_num,by rw[P1.out],by rw[P2.out];go_num,N3.out⟩
     case measure=>simp[intOf];omega
    ·have d1:(((k1:Nat):Int)==2)=false:=by rw[beq_eq_false_iff_ne];omega
     have P2:=zH (show lvG (k+1)=g by rw[Q2.out,if_neg c1,Nat.add_zero])
     clear c1 Q2
     go_wp2
     go_roundw
     case rel=>exact⟨k+1,_,by omega,HL3.out,by go_num,by rw[P1.out],by rw[P2.out],N3.out⟩
     case measure=>simp[intOf];omega
  ·obtain rfl:k=80:=by omega
   rw[zaJ.1,zaJ.2]
   have hli:=N.out.line (by rw[HLEN.out];omega)
   rw[HLEN.out]at hli
   have HLI:=zH hli
   clear hli
   go_wp2_with fail
   refine HLI.out.mono ?_
   rintro e w3 ⟨a,c,rfl,_,n3⟩
   have M3:=zH (N.out.nb.tr n3)
   clear n3
   go_wp2
   go_ret
   exact⟨rfl,M3.out⟩
end Go.Proofs.YtplbmlpdefpplaaGreatDoor
