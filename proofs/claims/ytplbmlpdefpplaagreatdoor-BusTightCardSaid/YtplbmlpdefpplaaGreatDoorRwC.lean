
/- Contracts of package row: a field and bytes put behind a row, Flag, Stuff, Wire. No conditions but sizes. -/
import Derived.Test.YtplbmlpdefpplaaGreatDoorClaP
import Derived.Test.YtplbmlpdefpplaaGreatDoorGr
set_option maxHeartbeats 3200000
set_option maxRecDepth 100000
namespace Go.Proofs.YtplbmlpdefpplaaGreatDoor
set_option linter.unusedVariables false
set_option linter.unusedSimpArgs false
open Go.RowKit
variable {L l l':List Nat} {R R0 b:Nat} {t:TypeId} {u0 u1 u2 v:Value} {w w4 wr:World}
theorem zm.tr2{w1 w2 w3:World}{v2:Value}(k2:Kp (z2V R v) w1 w2)(f2:∀k,z2V R v2 k->z2V R v k\/w1.heap.size<=k)(h:zm w2 t R v2 l' w3):zm w1 t R v l' w3:=by
 obtain⟨v3,r3,k3,f3⟩:=h
 refine⟨v3,r3,k2.tr k3 f2,fun k hk => ?_⟩
 rcases f3 k hk with h | h
 ·exact f2 k h
 ·exact .inr (Nat.le_trans k2.size h)
theorem zm.below(h:zm w4 t R0 (.slice none 0 0) L wr)(m:Nb w w4)(hR:w.heap.size<=R0):Nb w wr:=by
 obtain⟨v,_,k,_⟩:=h
 refine m.trans (k.toBelow m.size ?_)
 rintro j (rfl | hj)
 ·exact hR
 ·simp[Value.ownBlock]at hj
theorem zm.fresh(h:zm w4 t R0 (.slice none 0 0) L wr)(m:Nb w w4)(hR:w.heap.size<=R0):∃a c,wr.cell? ⟨R0,0,none⟩=some (.slice a L.length c)/\zf w wr (.slice a L.length c) L:=by
 obtain⟨v,r,k,f⟩:=h
 obtain⟨a,c,rfl,hb,ho⟩:=r.own.bs
 refine⟨a,c,by simpa using r.blk.cell 0,r.own,fun g hg => ?_⟩
 rcases f g (.inr hg)with (h1 | h1) | h1
 ·omega
 ·simp[Value.ownBlock]at h1
 ·exact Nat.le_trans m.size h1
theorem zm.blk{t':TypeId}{B:Nat}{cs:Array Value}(h:zm w4 t R0 v L wr)(b:Blk w4 B cs t')(n:¬z2V R0 v B):Blk wr B cs t':=by
 obtain⟨_,_,k,_⟩:=h
 exact b.keep k n
theorem zO (R:Nat) (v:Value) (l:List Nat) (n size:Nat) (w:World) (h:z1k w 205 R v l) (h0:0 < size) (hs:size<=32) (hn:n < 2^size) (hl:l.length<=1000000) :
    Calls Tryz.prog 148 #[.pointer (some ⟨R,0,none⟩),.int .u32 n,.int .i64 size] w fun e w'=>e = .returned (.tuple #[])/\zm w 205 R v (l++zc n size) w':=by
 have hput:=zid n size w (by omega) hn
 have hb:=zb n size
 have h32:n < 4294967296:=Nat.lt_of_lt_of_le hn (Nat.pow_le_pow_right (n:=2) (by omega) hs)
 have hne:=h.ne
 have H:=zH h
 have HP:=zH hput
 have HB:=zH hb
 clear hput hb h hn
 go_enter Tryz.func148,Tryz.ntmps148
 go_wp2_with fail
 refine HP.out.mono ?_
 rintro e w1 ⟨⟨a1,c1,rfl,hb1⟩,n1⟩
 have hr1:=H.out.keep (F:=fun _=>False) (Kp.ofNb n1) (by simp)
 have hk1:Kp (z2V R v) w w1:=Kp.ofNb n1
 have hown:=hr1.own
 have hbl:=hr1.blk
 have c0:=hbl.cell 0
 simp only[List.getElem?_toArray,List.getElem?_cons_zero]at c0
 have hnone:a1=none->size=0/\c1=0:=by
  rintro rfl
  have:=hb1.none_len
  have h2:=HB.out
  rw[this]at h2
  simp at h2
  omega
 clear hr1
 go_wp2_with (at_builtin;refine zd _ rfl (.tmp 19) (.tmp 20) rfl v l rfl hown a1 c1 (zc n size) size HB.out.symm rfl hb1 hnone (by rw[HB.out];omega) ?_)
 intro v' w2 hown' hk hfr
 have hbl':=hbl.keep hk hne
 obtain⟨g,cap,rfl⟩:=hown'.shape (by rw[List.length_append,HB.out];omega)
 have hRlt:=hbl.lt
 have hg:g≠R:=by
  rintro rfl
  rcases hfr g rfl with h1 | h1
  ·exact hne h1
  ·omega
 have d0:w2.cell? ⟨R,0,none⟩=some v:=hbl'.cell 0
 have d1:=hbl'.frozen 0
 have hfin:zm w 205 R v (l++zc n size) (w2.setCell ⟨R,0,none⟩ (.slice (some ⟨g,0,none⟩) (l++zc n size).length cap)):=by
  refine⟨_,⟨by simpa using hbl'.set 0 (.slice (some ⟨g,0,none⟩) (l++zc n size).length cap),hown'.keep (Kp.set (F:=(·=R)) rfl) (by simpa [Value.ownBlock]using hg),by simpa [Value.ownBlock]using hg⟩,?_,?_⟩
  ·exact(hk1.tr (hk.mono (F':=z2V R v) (fun k _ h => .inr h)) (fun k h => .inl h)).tr (Kp.set (F:=(·=R)) rfl) (fun k h => .inl (.inl h))
  ·rintro k (rfl | hk)
   ·exact .inl (.inl rfl)
   ·rcases hfr k hk with h1 | h1
    ·exact .inl (.inr h1)
    ·exact .inr (by have:=n1.size;omega)
 have HF:=zH hfin
 have hlen:(l++zc n size).length=l.length+size:=by rw[List.length_append,HB.out]
 clear hown' hk hfr hbl' hown hbl hb1 hfin
 go_wp2
 go_end0
 have hf:=HF.out
 rw[hlen]at hf
 exact⟨rfl,hf⟩
theorem z2N(b:Bool)(w:World):Calls Tryz.prog 155 #[.bool b] w fun e w'=>e = .returned (.int .u32 (zP b:Nat))/\w=w':=by
 cases b
 all_goals go_enter Tryz.func155,Tryz.ntmps155
 all_goals go_wp2
 all_goals go_ret
 all_goals exact⟨rfl,rfl⟩
theorem zge (a:Option Addr) (cap:Nat) (l:List Nat) (w:World) (h:Bs w a cap l) (hl:l.length<=1000000) :
    Calls Tryz.prog 173 #[.slice a l.length cap] w fun e w'=>(∃a c,e = .returned (.slice a (8*l.length) c)/\Bs w' a c (l.flatMap fun x=>zc x 8)/\(a=none->c=0))/\Nb w w':=by
 have hmf:∀(fn:Fn) (first cap:Array Value) (w:World),(Instr.makeFunc fn first cap).run Tryz.prog w = .ok (.func fn first cap) w:=fun _ _ _ _=>rfl
 have H:=zH h
 have hfl:∀k,k<=l.length->((l.take k).flatMap fun x=>zc x 8).length=8*k:=by
  intro k hk
  induction k with
  | zero=>simp
  | succ k ih =>
    rw[zX (x:=l[k]) (by simp),List.flatMap_append,List.length_append,ih (by omega)]
    simp[zb]
    omega
 have HF:=zH hfl
 clear h hfl
 go_enter Tryz.func173,Tryz.ntmps173
 go_wp2_with fail
 rw[show(8*(l.length:Int))=((8*l.length:Nat):Int)from by push_cast;rfl]
 refine(z4d (8*l.length) _ (by omega)).mono ?_
 rintro e w1 ⟨⟨g,c,rfl,ho,hg⟩,hnb⟩
 have hal:Kp (fun _=>False) w1 (w1.alloc (.cells #[.slice (some ⟨g,0,none⟩) 0 c] 242)):=Kp.alloc
 have hlt:=ho.lt (g:=g) rfl
 have hrow:z1k (w1.alloc (.cells #[.slice (some ⟨g,0,none⟩) 0 c] 242)) 242 w1.heap.size (.slice (some ⟨g,0,none⟩) 0 c) [] :=
  ⟨Blk.new _ _ _,ho.keep hal (by simp),by simp[Value.ownBlock];omega⟩
 have HR:=zH hrow
 clear hrow ho hal
 go_wp2_with fail
 refine(z80 189 (.pointer (some ⟨w1.heap.size,0,none⟩)) a cap l (fun k wr=>(∃v,z1k wr 242 w1.heap.size v ((l.take k).flatMap fun x=>zc x 8)/\∀j,z2V w1.heap.size v j->w.heap.size<=j)/\Nb w wr) _ (by omega)
  ⟨⟨_,by simpa using HR.out,by rintro k (rfl | hk);exact hnb.size;simp[Value.ownBlock]at hk;omega⟩,hnb.al _⟩ (fun k wr hI=>H.out.below hI.2) (hcf _ _ Tryz.func189 (by rfl) (by decide +kernel)) ?_).mono ?_
 ·rintro k x wr ⟨⟨v,hr,hf⟩,hnb⟩ hx
  have hk:k < l.length:=(List.getElem?_eq_some_iff.1 hx).1
  refine(z8F w1.heap.size v _ x wr hr (H.out.hbyte x (List.mem_of_getElem? hx)) (by rw[HF.out k (by omega)];omega)).mono ?_
  rintro e w' ⟨rfl,v',hr',hk',hf'⟩
  refine⟨rfl,⟨v',by rw[zX hx,List.flatMap_append];simpa using hr',fun j hj => ?_⟩,hnb.trans (hk'.toBelow hnb.size hf)⟩
  rcases hf' j hj with h1 | h1
  ·exact hf j h1
  ·exact Nat.le_trans hnb.size h1
 ·rintro e w2 ⟨rfl,⟨v,hr,hf⟩,hnb⟩
  have hlen:=HF.out l.length (Nat.le_refl _)
  rw[List.take_of_length_le (Nat.le_refl _)]at hr hlen
  obtain⟨a',c',rfl,hbs,_⟩:=hr.own.bs
  have hnn:=(zf.bs (w:=w) ⟨hr.own,fun g hg=>hf g (.inr hg)⟩).2
  have c0:w2.cell? ⟨w1.heap.size,0,none⟩=_:=hr.blk.cell 0
  rw[hlen]at c0
  have HB:=zH hbs
  have HN:=zH hnn
  clear hr hbs hlen hnn
  go_wp2
  go_ret
  exact⟨⟨a',c',rfl,HB.out,HN.out⟩,hnb⟩
theorem z4c (R:Nat) (v:Value) (l:List Nat) (a:Option Addr) (cap:Nat) (b:List Nat) (w:World) (h:z1k w 205 R v l) (hb:Bs w a cap b) (h0:0 < l.length) (hl:l.length<=1000000) (hbl:b.length<=100000) :
    Calls Tryz.prog 150 #[.pointer (some ⟨R,0,none⟩),.slice a b.length cap] w fun e w'=>e = .returned (.tuple #[])/\zm w 205 R v (l++ze b) w':=by
 have P1:=zH (fun w' (n:Nb w w')=>zge a cap b w' (hb.below n) (by omega))
 have HB8:=zH (zN b)
 obtain⟨g0,c0',rfl⟩:=h.own.shape h0
 have c0:w.cell? ⟨R,0,none⟩=some (.slice (some ⟨g0,0,none⟩) l.length c0'):=h.blk.cell 0
 have f0:=h.blk.frozen 0
 have H:=zH h
 have HBL:=zH hbl
 have HLL:=zH hl
 have H0:=zH h0
 clear h hb hbl hl h0
 go_enter Tryz.func150,Tryz.ntmps150
 have NN:RowKit.Hid (Nb w w.drew):=zH (Nb.drewN w 1)
 have RB:RowKit.Hid (Blk w.drew R #[.slice (some ⟨g0,0,none⟩) l.length c0'] 205):=zH (H.out.blk.nb NN.out)
 have cd:w.drew.cell? ⟨R,0,none⟩=some (.slice (some ⟨g0,0,none⟩) l.length c0'):=RB.out.cell 0
 go_region_law (first
     | (refine zce _ rfl (.tmp 8) (.tmp 10) rfl (.slice (some ⟨g0,0,none⟩) l.length c0') l (by simp[Act.eval,Act.put]) ?_ H0.out a6 d6 (ze b) (8*b.length) HB8.out.symm (by simp[Act.eval,Act.put]) ?_ Z6.out (by have:=HB8.out;have:=HBL.out;have:=HLL.out;omega) ?_
        ·exact H.out.own.keep (F:=fun _=>False) (Kp.ofNb NN.out) (by simp)
        ·exact F6.out _ Nb.rfl
        intro v7 w7 ho hk hg
        have RB:=zH (RB.out.keep hk H.out.ne)
        obtain⟨g7,c7,rfl⟩:=ho.shape (by rw[List.length_append];have:=H0.out;omega)
        have HO:=zH ho
        have HK:=zH hk
        have HG:=zH (hg g7 rfl)
        have c7':w7.cell? ⟨R,0,none⟩=some (.slice (some ⟨g0,0,none⟩) l.length c0'):=RB.out.cell 0
        have f7':w7.frozen? ⟨R,0,none⟩=false:=RB.out.frozen 0
        clear ho hk hg)
     | (go_simp
        go_at_call 173
        refine(P1.out _ NN.out).mono ?_
        rintro e w6 ⟨⟨a6,d6,rfl,b6,z6⟩,n6⟩
        have RB:=zH (RB.out.nb n6)
        have F6:=zH (fun w' (n:Nb w6 w')=>Bs.below b6 n)
        have Z6:=zH z6
        have NN:=zH (NN.out.tr n6)
        have c6:w6.cell? ⟨R,0,none⟩=some (.slice (some ⟨g0,0,none⟩) l.length c0'):=RB.out.cell 0
        clear b6 n6 z6))
 all_goals go_end0
 all_goals
  have ho:=HO.out
  rw[List.length_append]at ho
  have hgR:g7≠R:=by
   rintro rfl
   rcases HG.out with h1 | h1
   ·exact H.out.ne h1
   ·have:=H.out.blk.lt
    have:=NN.out.size
    omega
  refine⟨rfl,_,⟨by simpa using RB.out.set 0 (.slice (some ⟨g7,0,none⟩) (l.length+(ze b).length) c7),ho.keep (Kp.set (F:=(·=R)) rfl) (by simpa [Value.ownBlock]using hgR),by simpa [Value.ownBlock]using hgR⟩,?_,?_⟩
  ·exact((Kp.ofNb (F:=z2V R (.slice (some ⟨g0,0,none⟩) l.length c0')) NN.out).tr (HK.out.mono (F':=z2V R (.slice (some ⟨g0,0,none⟩) l.length c0')) (fun k _ h => .inr h)) (fun k h => .inl h)).tr (Kp.set (F:=(·=R)) rfl) (fun k h => .inl (.inl h))
  ·rintro k (rfl | hk)
   ·exact .inl (.inl rfl)
   ·have hk':g7=k:=by simpa [Value.ownBlock]using hk
    subst hk'
    rcases HG.out with h1 | h1
    ·exact .inl (.inr h1)
    ·have:=NN.out.size
     exact .inr (by omega)
def put3(w:World)(b:Nat)(v0 v1 v2:Value):World:=((w.setCell ⟨b,0,none⟩ v0).setCell ⟨b,1,none⟩ v1).setCell ⟨b,2,none⟩ v2
theorem z0n{v0 v1 v2:Value}(h:Blk w b #[u0,u1,u2] t):Blk (put3 w b v0 v1 v2) b #[v0,v1,v2] t:=by
 have:=((h.set 0 v0).set 1 v1).set 2 v2
 simpa [put3]using this
theorem zf3(w:World)(b:Nat)(v0 v1 v2:Value):Kp (fun x=>x=b) w (put3 w b v0 v1 v2):=by
 unfold put3
 exact((Kp.set (F:=fun x=>x=b) rfl).tr (Kp.set (F:=fun x=>x=b) rfl) (fun _ h => .inl h)).tr (Kp.set (F:=fun x=>x=b) rfl) (fun _ h => .inl h)
theorem z0P{w0:World}(h:Nb w0 w)(hb:w0.heap.size<=b)(v0 v1 v2:Value):Nb w0 (put3 w b v0 v1 v2) :=
 h.trans ((zf3 w b v0 v1 v2).toBelow h.size (fun k hk=>by subst hk;exact hb))
theorem Blk.c3(h:Blk w R #[u0,u1,u2] t):w.cell? ⟨R,0,none⟩=some u0/\w.cell? ⟨R,1,none⟩=some u1/\w.cell? ⟨R,2,none⟩=some u2:=⟨h.cell 0,h.cell 1,h.cell 2⟩
theorem Blk.f3(h:Blk w R #[u0,u1,u2] t):w.frozen? ⟨R,0,none⟩=false/\w.frozen? ⟨R,1,none⟩=false/\w.frozen? ⟨R,2,none⟩=false:=⟨h.frozen 0,h.frozen 1,h.frozen 2⟩
theorem z04.put3(h:z04 w v l)(hb:∀g,v.ownBlock=some g->g≠b)(v0 v1 v2:Value):z04 (put3 w b v0 v1 v2) v l :=
 h.keep (zf3 w b v0 v1 v2) (fun g hg=>hb g hg)
def z4B(w:World)(l:List Nat)(arb ack er:Nat)(e:Ending)(w':World):Prop:=∃a c,e = .returned (.tuple #[.agg #[.slice a l.length c,.int .i64 arb,.int .i64 ack],.int .i64 er])/\zf w w' (.slice a l.length c) l
theorem z8J (a:Option Addr) (cap:Nat) (L:List Nat) (k:Nat) (w:World) (h:Bs w a cap L) (hch:chk L=true) (hL:L.length<=2000) (hk:k<=L.length) :
    Calls Tryz.prog 128 #[.slice a L.length cap,.int .i64 k] w fun e w'=>z6c w (zh L) (zh (L.take k)).length 0 e w'/\Nb w w':=by
 obtain⟨s1,s2,s3⟩:=ziJ hch (by omega)
 have htk:=zck (l:=L) (more:=[]) hch (by decide) hL (by simp) hk
 rw[List.append_nil]at htk
 obtain⟨t1,t2,t3⟩:=htk
 have hp2:=zhV a cap L w h
 rw[s1,s2]at hp2
 have hp3:=fun w' (a':Option Addr) (c':Nat) (hb:Bs w' a' c' (zh L))=>by
  have:=zjv a' c' (zh L) (k:Int) w' hb
  rw[t1,t2,t3]at this
  exact this
 have HP2:=zH hp2
 have HP3:=zH hp3
 clear hp2 hp3 h hch s1 s2 s3 t1 t2 t3
 generalize zh L=P at *
 generalize (zh (L.take k)).length=N at *
 generalize L.take k=T at *
 go_enter Tryz.func128,Tryz.ntmps128
 go_wp2_with fail
 refine HP2.out.mono ?_
 rintro e w2 ⟨⟨a2,c2,rfl,f2⟩,n2⟩
 have F2:=zH f2
 clear f2
 go_wp2_with fail
 refine(HP3.out _ a2 c2 F2.out.bs.1).mono ?_
 rintro e w3 ⟨⟨a3,c3,rfl,f3⟩,n3⟩
 have F3:=zH (F2.out.keep n3)
 clear f3
 go_wp2
 go_ret3
 exact⟨⟨a2,c2,rfl,F3.out⟩,n2.tr n3⟩
theorem z5F (a:Option Addr) (cap:Nat) (P:List Nat) (N:Nat) (w:World) (h:Bs w a cap P) (hn:a=none->cap=0) (hP:P.length<=100000) :
    Calls Tryz.prog 129 #[.slice a P.length cap,.int .i64 N] w fun e w'=>(∃a' c',e = .returned (.agg #[.slice a' (P++ones 10).length c',.int .i64 N,.int .i64 ((P.length+1:Nat):Int)])/\zf w w' (.slice a' (P++ones 10).length c') (P++ones 10))/\Nb w w':=by
 have H:=zH h
 have HN:=zH hn
 have hx:=zH (Blk.new w #[.slice none 0 0,.int .i64 0,.int .i64 0] 52)
 have hL:=h.len
 clear h hn
 go_enter Tryz.func129,Tryz.ntmps129
 go_wp2_with fail
 refine(zbT (w.heap.size+1) 0 1 1 10 _ (by simp) (by omega) (by omega) (by omega)).mono ?_
 rintro e w4 ⟨⟨a4,c4,rfl,f4⟩,n4⟩
 have m4:Nb w w4:=((Nb.rfl.al _).al _).tr n4
 have HX4:=zH (hx.out.nb ((Nb.rfl.al _).tr n4))
 have H4:=zH (H.out.below m4)
 have G4:=zH f4.bs.1
 clear f4 n4
 go_wp2_with fail
 refine(z2g w4.heap.size 0 a a4 cap c4 P (ones 10) _ (by simp) (by simp[z0a]) (H4.out.below (Nb.rfl.al _)) (G4.out.below (Nb.rfl.al _)) (by simp[z0a]) HN.out (by omega) (by simp[z0a])).mono ?_
 rintro e w5 ⟨⟨a5,c5,rfl,f5⟩,n5⟩
 have n45:Nb w4 w5:=(Nb.rfl.al _).tr n5
 have m5:=m4.tr n45
 have hx5:=HX4.out.nb n45
 obtain⟨d0,d1,d2⟩:=hx5.c3
 obtain⟨g0,g1,g2⟩:=hx5.f3
 have s4:w.heap.size+1<=w4.heap.size:=HX4.out.lt
 have hfr:∀g,(Value.slice a5 (P++ones 10).length c5).ownBlock=some g->w.heap.size+1<=g:=fun g hg=>by
  have:=f5.2 g hg
  rw[World.size_alloc]at this
  omega
 have HB:=zH (z0n (v0 := .slice a5 (P++ones 10).length c5) (v1 := .int .i64 N) (v2 := .int .i64 ((P.length:Int)+1)) hx5)
 have HW:=zH (z0P m5 (b:=w.heap.size) (by omega) (.slice a5 (P++ones 10).length c5) (.int .i64 N) (.int .i64 ((P.length:Int)+1)))
 have HF:=zH (show zf w (put3 w5 w.heap.size (.slice a5 (P++ones 10).length c5) (.int .i64 N) (.int .i64 ((P.length:Int)+1))) (.slice a5 (P++ones 10).length c5) (P++ones 10) from⟨f5.1.put3 (fun g hg=>by have:=hfr g hg;omega) _ _ _,fun g hg=>by have:=hfr g hg;omega⟩)
 obtain⟨Q,hQ⟩:∃Q,Q=P++ones 10:=⟨_,rfl⟩
 rw[<- hQ]at HB HW HF
 have HQ:=zH hQ
 rw[<- hQ]
 clear f5 n5 hx5 n45 hfr hQ m4 m5
 go_wp2
 change bodyPost _ _ _ _ _ (put3 w5 w.heap.size (.slice a5 Q.length c5) (.int .i64 N) (.int .i64 ((P.length:Int)+1)))
 generalize put3 w5 w.heap.size (.slice a5 Q.length c5) (.int .i64 N) (.int .i64 ((P.length:Int)+1))=W at *
 obtain⟨e0,e1,e2⟩:=HB.out.c3
 exact bodyPost_ret (v := .agg #[.slice a5 Q.length c5,.int .i64 N,.int .i64 ((P.length:Int)+1)]) (by simp[results,Tryz.results129,go_sem,e0,e1,e2]) rfl ⟨⟨a5,c5,by rw[HQ.out];rfl,by rw[<- HQ.out];exact HF.out⟩,HW.out⟩
end Go.Proofs.YtplbmlpdefpplaaGreatDoor
