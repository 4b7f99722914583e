/- The landed package node, and more. Conditions: as each says. -/
import Derived.Test.YtplbmlpdefpplaaGreatDoorGn
import Derived.Deep.CutRange
set_option maxHeartbeats 6400000
set_option maxRecDepth 100000
namespace Go.Proofs.YtplbmlpdefpplaaGreatDoor
set_option linter.unusedVariables false
set_option linter.unusedSimpArgs false
open Go.RowKit
variable {R:Nat} {G1 GL GM:Nat->Prop} {m n:Nd} {rw:Value} {w0 w1:World}
theorem zm2(h:n.ph=0)(b:Nat):n.step b=(n.cnt b 11 1,z02):=by unfold Nd.step;rw[if_pos h]
theorem zlM(h:n.ph=4)(b:Nat):n.step b=(n.to (if b=0 then 6 else 8),z02):=by
 unfold Nd.step;rw[if_neg (by omega),if_neg (by omega),if_neg (by omega),if_neg (by omega),if_pos h]
theorem zly(h:n.ph=5\/n.ph=6)(b:Nat):n.step b=(if n.c+1=6 then n.to 7 else { n with c:=n.c+1 },z02):=by
 unfold Nd.step;rw[if_neg (by omega),if_neg (by omega),if_neg (by omega),if_neg (by omega),if_neg (by omega),if_pos h]
theorem zlC(h:n.ph=7)(b:Nat):n.step b=(n.cnt b 8 8,z02):=by
 unfold Nd.step;rw[if_neg (by omega),if_neg (by omega),if_neg (by omega),if_neg (by omega),if_neg (by omega),if_neg (by omega),if_pos h]
theorem zm5(h:n.ph=8)(b:Nat):n.step b=(n.pause b,z02):=by
 unfold Nd.step;rw[if_neg (by omega),if_neg (by omega),if_neg (by omega),if_neg (by omega),if_neg (by omega),if_neg (by omega),if_neg (by omega),if_pos h]
theorem zlm(h:n.ph=9)(b:Nat):n.step b=(if b=0 then n.begin else n.cnt b 8 1,z02):=by
 unfold Nd.step;rw[if_neg (by omega),if_neg (by omega),if_neg (by omega),if_neg (by omega),if_neg (by omega),if_neg (by omega),if_neg (by omega),if_neg (by omega),if_pos h]
theorem zki(h:n.ph=10)(b:Nat):n.step b=(n,z02):=by
 unfold Nd.step;rw[if_neg (by omega),if_neg (by omega),if_neg (by omega),if_neg (by omega),if_neg (by omega),if_neg (by omega),if_neg (by omega),if_neg (by omega),if_neg (by omega),if_neg (by omega)]
theorem zkL(h:n.ph=11)(b:Nat):n.step b=(n.back b,z02):=by
 unfold Nd.step;rw[if_neg (by omega),if_neg (by omega),if_neg (by omega),if_neg (by omega),if_neg (by omega),if_neg (by omega),if_neg (by omega),if_neg (by omega),if_neg (by omega),if_pos h]
theorem z83(n:Nd)(b k p:Nat)(h:n.ph≠2/\n.ph≠3)(hp:p≠2/\p≠3):(n.cnt b k p).has=n.has/\((n.cnt b k p).ph≠2/\(n.cnt b k p).ph≠3)/\(n.cnt b k p).c=(n.cnt b k p).count:=by
 have hc:∀m:Nd,m.ph≠3->m.c=m.count:=fun m hm=>by unfold Nd.count;rw[if_neg hm]
 unfold Nd.cnt
 split
 ·exact⟨rfl,h,hc _ h.2⟩
 ·split
  ·exact⟨rfl,hp,hc _ hp.2⟩
  ·exact⟨rfl,h,hc _ h.2⟩
theorem z3J(n:Nd)(k p:Nat)(h:n.ph≠2/\n.ph≠3)(hp:p≠2/\p≠3):(if n.c+1=k then n.to p else { n with c:=n.c+1 }).has=n.has/\((if n.c+1=k then n.to p else { n with c:=n.c+1 }).ph≠2/\(if n.c+1=k then n.to p else { n with c:=n.c+1 }).ph≠3)/\(if n.c+1=k then n.to p else { n with c:=n.c+1 }).c=(if n.c+1=k then n.to p else { n with c:=n.c+1 }).count:=by
 have hc:∀m:Nd,m.ph≠3->m.c=m.count:=fun m hm=>by unfold Nd.count;rw[if_neg hm]
 split
 ·exact⟨rfl,hp,hc _ hp.2⟩
 ·exact⟨rfl,h,hc _ h.2⟩
theorem z8W(R:Nat)(n:Nd)(ld:Value)(GL GM:Nat->Prop)(b:Nat)(w:World)(h:NB w R n n.c ld (.pointer none))(hl:ld=if n.has then ld else .pointer none)(hcx:CxN w R GL GM)(hp:n.ph=0)(hc:n.c < 200):Calls Tryz.prog 114 #[.pointer (some ⟨R,0,none⟩),.int .u8 (b:Nat)] w (RT w R (n.step b).1 (n.step b).2 ld GL GM):=by
 have CX:=zH hcx
 have hRw:=hcx.lt
 obtain⟨w0,HW0,N0,S0,X0⟩:=ev0 w
 have HO:=zH (z93 R n n.c ld b 11 1 w0 (h.nb N0.out) rfl hc)
 obtain⟨g1,g2,g3⟩:=z83 n b 11 1 ⟨by omega,by omega⟩ ⟨by omega,by omega⟩
 rw[zm2 hp]
 obtain⟨m,hm⟩:∃m,n.cnt b 11 1=m:=⟨_,rfl⟩
 simp only[hm]at HO g1 g2 g3 ⊢
 have HF:=zH (fun w' q k=>NT.rt (GL:=GL) (GM:=GM) (ev:=z02) (ld0:=ld) (e := .returned z1d) (w':=w') Kp.rfl (⟨rfl,q,k⟩:NT w0 R m m.c ld (.pointer none) z1d _ w') rfl g3 (by rw[g1];exact hl) g2)
 clear h hl hp hc g1 g2 g3 hm hcx
 go_enter Tryz.func114,Tryz.ntmps114
 go_wp2_with fail
 rw[<- HW0.out]
 refine(HO.out).mono ?_
 rintro e w1 ⟨rfl,q1,k1⟩
 have Z:=zH (HF.out _ q1 k1)
 have X1:=zH (X0.out.keep k1 (by have:=CX.out.lt;omega))
 clear q1 k1
 go_wp2_with (refine wpR (X1.out) ?_)
 have kq:=Kp.row w1 (w.heap.size) (z0b zM (.slice none 0 0))
 exact zI (Blk.row (X1.out) (z0b zM (.slice none 0 0))) (RT.mk N0.out Z.out kq CX.out (Nat.le_refl _) (by have:=S0.out;omega))
theorem z7j(R:Nat)(n:Nd)(ld:Value)(GL GM:Nat->Prop)(b:Nat)(w:World)(h:NB w R n n.c ld (.pointer none))(hl:ld=if n.has then ld else .pointer none)(hcx:CxN w R GL GM)(hp:n.ph=7)(hc:n.c < 200):Calls Tryz.prog 120 #[.pointer (some ⟨R,0,none⟩),.int .u8 (b:Nat)] w (RT w R (n.step b).1 (n.step b).2 ld GL GM):=by
 have CX:=zH hcx
 have hRw:=hcx.lt
 obtain⟨w0,HW0,N0,S0,X0⟩:=ev0 w
 have HO:=zH (z93 R n n.c ld b 8 8 w0 (h.nb N0.out) rfl hc)
 obtain⟨g1,g2,g3⟩:=z83 n b 8 8 ⟨by omega,by omega⟩ ⟨by omega,by omega⟩
 rw[zlC hp]
 obtain⟨m,hm⟩:∃m,n.cnt b 8 8=m:=⟨_,rfl⟩
 simp only[hm]at HO g1 g2 g3 ⊢
 have HF:=zH (fun w' q k=>NT.rt (GL:=GL) (GM:=GM) (ev:=z02) (ld0:=ld) (e := .returned z1d) (w':=w') Kp.rfl (⟨rfl,q,k⟩:NT w0 R m m.c ld (.pointer none) z1d _ w') rfl g3 (by rw[g1];exact hl) g2)
 clear h hl hp hc g1 g2 g3 hm hcx
 go_enter Tryz.func120,Tryz.ntmps120
 go_wp2_with fail
 rw[<- HW0.out]
 refine(HO.out).mono ?_
 rintro e w1 ⟨rfl,q1,k1⟩
 have Z:=zH (HF.out _ q1 k1)
 have X1:=zH (X0.out.keep k1 (by have:=CX.out.lt;omega))
 clear q1 k1
 go_wp2_with (refine wpR (X1.out) ?_)
 have kq:=Kp.row w1 (w.heap.size) (z0b zM (.slice none 0 0))
 exact zI (Blk.row (X1.out) (z0b zM (.slice none 0 0))) (RT.mk N0.out Z.out kq CX.out (Nat.le_refl _) (by have:=S0.out;omega))
theorem z4q(R:Nat)(n:Nd)(ld:Value)(GL GM:Nat->Prop)(b:Nat)(w:World)(h:NB w R n n.c ld (.pointer none))(hl:ld=if n.has then ld else .pointer none)(hcx:CxN w R GL GM)(hp:n.ph=5\/n.ph=6)(hc:n.c < 200):Calls Tryz.prog 119 #[.pointer (some ⟨R,0,none⟩),.int .u8 (b:Nat)] w (RT w R (n.step b).1 (n.step b).2 ld GL GM):=by
 have CX:=zH hcx
 have hRw:=hcx.lt
 obtain⟨w0,HW0,N0,S0,X0⟩:=ev0 w
 have HO:=zH (z32 R n n.c ld 6 7 w0 (h.nb N0.out) rfl hc)
 obtain⟨g1,g2,g3⟩:=z3J n 6 7 ⟨by omega,by omega⟩ ⟨by omega,by omega⟩
 rw[zly hp]
 obtain⟨m,hm⟩:∃m,(if n.c+1=6 then n.to 7 else { n with c:=n.c+1 })=m:=⟨_,rfl⟩
 simp only[hm]at HO g1 g2 g3 ⊢
 have HF:=zH (fun w' q k=>NT.rt (GL:=GL) (GM:=GM) (ev:=z02) (ld0:=ld) (e := .returned z1d) (w':=w') Kp.rfl (⟨rfl,q,k⟩:NT w0 R m m.c ld (.pointer none) z1d _ w') rfl g3 (by rw[g1];exact hl) g2)
 clear h hl hp hc g1 g2 g3 hm hcx
 go_enter Tryz.func119,Tryz.ntmps119
 go_wp2_with fail
 rw[<- HW0.out]
 refine(HO.out).mono ?_
 rintro e w1 ⟨rfl,q1,k1⟩
 have Z:=zH (HF.out _ q1 k1)
 have X1:=zH (X0.out.keep k1 (by have:=CX.out.lt;omega))
 clear q1 k1
 go_wp2_with (refine wpR (X1.out) ?_)
 have kq:=Kp.row w1 (w.heap.size) (z0b zM (.slice none 0 0))
 exact zI (Blk.row (X1.out) (z0b zM (.slice none 0 0))) (RT.mk N0.out Z.out kq CX.out (Nat.le_refl _) (by have:=S0.out;omega))
theorem z8Y(R:Nat)(n:Nd)(ld:Value)(GL GM:Nat->Prop)(b:Nat)(w:World)(h:NB w R n n.c ld (.pointer none))(hl:ld=if n.has then ld else .pointer none)(hcx:CxN w R GL GM)(hp:n.ph=4):Calls Tryz.prog 118 #[.pointer (some ⟨R,0,none⟩),.int .u8 (b:Nat)] w (RT w R (n.step b).1 (n.step b).2 ld GL GM):=by
 have CX:=zH hcx
 have hRw:=hcx.lt
 obtain⟨w0,HW0,N0,S0,X0⟩:=ev0 w
 have HO:=zH (fun p=>z0Y R n n.c ld (.pointer none) p w0 (h.nb N0.out))
 rw[zlM hp]
 have HF:=zH (fun p (hp:p=6\/p=8) w' q k=>NT.rt (GL:=GL) (GM:=GM) (ev:=z02) (ld0:=ld) (e := .returned z1d) (w':=w') Kp.rfl (⟨rfl,q,k⟩:NT w0 R (n.to p) 0 ld (.pointer none) z1d _ w') rfl (by unfold Nd.count;rw[if_neg (by show ¬p=3;omega)];rfl) hl ⟨by show p≠2;omega,by show p≠3;omega⟩)
 clear h hl hp hcx
 by_cases hb:b=0
 ·subst hb
  rw[if_pos rfl]
  go_enter Tryz.func118,Tryz.ntmps118
  go_wp2_with fail
  rw[<- HW0.out]
  refine(HO.out _).mono ?_
  rintro e w1 ⟨rfl,q1,k1⟩
  have Z:=zH (HF.out 6 (.inl rfl) _ q1 k1)
  have X1:=zH (X0.out.keep k1 (by have:=CX.out.lt;omega))
  clear q1 k1
  go_wp2_with (refine wpR (X1.out) ?_)
  have kq:=Kp.row w1 (w.heap.size) (z0b zM (.slice none 0 0))
  exact zI (Blk.row (X1.out) (z0b zM (.slice none 0 0))) (RT.mk N0.out Z.out kq CX.out (Nat.le_refl _) (by have:=S0.out;omega))
 ·have db:((b:Int)==0)=false:=by rw[beq_eq_false_iff_ne];omega
  rw[if_neg hb]
  clear hb
  go_enter Tryz.func118,Tryz.ntmps118
  go_wp2_with fail
  rw[<- HW0.out]
  refine(HO.out _).mono ?_
  rintro e w1 ⟨rfl,q1,k1⟩
  have Z:=zH (HF.out 8 (.inr rfl) _ q1 k1)
  have X1:=zH (X0.out.keep k1 (by have:=CX.out.lt;omega))
  clear q1 k1
  go_wp2_with (refine wpR (X1.out) ?_)
  have kq:=Kp.row w1 (w.heap.size) (z0b zM (.slice none 0 0))
  exact zI (Blk.row (X1.out) (z0b zM (.slice none 0 0))) (RT.mk N0.out Z.out kq CX.out (Nat.le_refl _) (by have:=S0.out;omega))
theorem z9i(R:Nat)(n:Nd)(ld:Value)(GL GM:Nat->Prop)(b:Nat)(w:World)(h:NB w R n n.c ld (.pointer none))(hl:ld=if n.has then ld else .pointer none)(hcx:CxN w R GL GM)(hp:n.ph=10):Calls Tryz.prog 123 #[.pointer (some ⟨R,0,none⟩),.int .u8 (b:Nat)] w (RT w R (n.step b).1 (n.step b).2 ld GL GM):=by
 rw[zki hp]
 have HF:=zH (fun w' q k=>NT.rt (GL:=GL) (GM:=GM) (ev:=z02) (ld0:=ld) (e := .returned z1d) (w':=w') Kp.rfl (⟨rfl,q,k⟩:NT w R n n.c ld (.pointer none) z1d _ w') rfl (by unfold Nd.count;rw[if_neg (by omega)]) hl ⟨by omega,by omega⟩)
 have H:=zH h
 clear h hl hp hcx
 go_enter Tryz.func123,Tryz.ntmps123
 go_wp2
 have hb:=Blk.new w (z0b zM (.slice none 0 0)) 40
 have hs:(w).heap.size=w.heap.size:=rfl
 rw[hs]at hb
 obtain⟨_,⟨e0,e1,e2,e3,e4,e5,e6,e7,e8,e9,e10,e11,e12⟩,_⟩:=Blk.h13 hb
 exact bodyPost_ret (v:=z1V zM (.slice none 0 0)) (by simp[results,Tryz.results123,go_sem,z1V,zM,noF]) rfl (HF.out _ (H.out.nb (Nb.rfl.al _)) (Kp.ofNb (Nb.rfl.al _)))
theorem z5H(R:Nat)(n:Nd)(ld:Value)(GL GM:Nat->Prop)(b:Nat)(w:World)(h:NB w R n n.c ld (.pointer none))(hl:ld=if n.has then ld else .pointer none)(hcx:CxN w R GL GM)(hp:n.ph=9)(hc:n.c < 200)(ho:z2D n.fa=true)(hB:z0i w):Calls Tryz.prog 122 #[.pointer (some ⟨R,0,none⟩),.int .u8 (b:Nat)] w (RT w R (n.step b).1 (n.step b).2 ld GL GM):=by
 have CX:=zH hcx
 have hRw:=hcx.lt
 obtain⟨w0,HW0,N0,S0,X0⟩:=ev0 w
 have HO:=zH (z32 R n n.c ld 8 1 w0 (h.nb N0.out) rfl hc)
 have HH:=zH (z5O R n n.c ld (.pointer none) GL GM w0 (h.nb N0.out) ho (hB.below N0.out) hl (hcx.up N0.out.size))
 obtain⟨g1,g2,g3⟩:=z3J n 8 1 ⟨by omega,by omega⟩ ⟨by omega,by omega⟩
 rw[zlm hp]
 unfold Nd.cnt
 by_cases hb:b=0
 ·subst hb
  rw[if_pos rfl]
  clear h hl hp hc g1 g2 g3 ho hB hcx HO
  go_enter Tryz.func122,Tryz.ntmps122
  go_wp2_with fail
  rw[<- HW0.out]
  refine(HH.out).mono ?_
  intro e w1 q
  have X1:=zH (X0.out.keep q.kp (fun hg=>by
   rcases hg with h | h
   ·omega
   ·have:=CX.out.gm _ h;omega))
  obtain⟨a1,cp1,rfl,q⟩:=q.is
  have Z:=zH q
  clear q
  go_wp2_with (refine wpR (X1.out) ?_)
  have kq:=Kp.row w1 (w.heap.size) (z0b zM (.slice a1 0 cp1))
  exact zI (Blk.row (X1.out) (z0b zM (.slice a1 0 cp1))) (RT.mk N0.out Z.out kq CX.out (Nat.le_refl _) (by have:=S0.out;omega))
 ·have db:((b:Int)==0)=false:=by rw[beq_eq_false_iff_ne];omega
  rw[if_neg hb,if_neg hb]
  obtain⟨m,hm⟩:∃m,(if n.c+1=8 then n.to 1 else { n with c:=n.c+1 })=m:=⟨_,rfl⟩
  simp only[hm]at HO g1 g2 g3 ⊢
  have HF:=zH (fun w' q k=>NT.rt (GL:=GL) (GM:=GM) (ev:=z02) (ld0:=ld) (e := .returned z1d) (w':=w') Kp.rfl (⟨rfl,q,k⟩:NT w0 R m m.c ld (.pointer none) z1d _ w') rfl g3 (by rw[g1];exact hl) g2)
  clear h hl hp hc g1 g2 g3 ho hB hcx hm hb HH
  go_enter Tryz.func122,Tryz.ntmps122
  go_wp2_with fail
  rw[<- HW0.out]
  refine(HO.out).mono ?_
  rintro e w1 ⟨rfl,q1,k1⟩
  have Z:=zH (HF.out _ q1 k1)
  have X1:=zH (X0.out.keep k1 (by have:=CX.out.lt;omega))
  clear q1 k1
  go_wp2_with (refine wpR (X1.out) ?_)
  have kq:=Kp.row w1 (w.heap.size) (z0b zM (.slice none 0 0))
  exact zI (Blk.row (X1.out) (z0b zM (.slice none 0 0))) (RT.mk N0.out Z.out kq CX.out (Nat.le_refl _) (by have:=S0.out;omega))
structure z2E(w0 w1:World)(R:Nat)(m:Nd)(ld rw:Value)(GL G1 GM:Nat->Prop):Prop where
 nb:NB w1 R m m.c ld rw
 ld:z1e w1 ld m.f m.l GL
 rl:¬GL R
 ma:z0l w1 rw m.kn m.x G1
 nr:¬G1 R
 ph:m.ph=2
 has:m.has=true
 len:(wF m.f m.l).length<=70000
 c:m.c < (wF m.f m.l).length
 ok:z2D m.fa=true
 g:∀k,G1 k->GM k\/w0.heap.size<=k
 lt:R < w0.heap.size
 kp:Kp (fun k=>k=R\/GM k) w0 w1
theorem z2E.next{w2:World}{ld:Value}(h:z2E w0 w1 R m ld rw GL G1 GM)(k:Nb w1 w2):z2E w0 w2 R m ld rw GL G1 GM :=
 ⟨h.nb.nb k,h.ld.keep (Kp.ofNb (F:=fun _=>False) k) (fun _ _ h=>h),h.rl,z03 h.ma (Kp.ofNb (F:=fun _=>False) k) (fun _ _ h=>h),h.nr,h.ph,h.has,h.len,h.c,h.ok,h.g,h.lt,h.kp.tr (Kp.ofNb (F:=fun k=>k=R\/GM k) k) (fun _ h => .inl h)⟩
theorem z2E.hl{ld:Value}(h:z2E w0 w1 R m ld rw GL G1 GM):ld=if m.has then ld else .pointer none:=by rw[if_pos h.has]
theorem z2E.sent {ld:Value} (h:z2E w0 w1 R m ld rw GL G1 GM) :
    Calls Tryz.prog 141 #[.pointer (some ⟨R,0,none⟩)] w1 (RT w0 R m.goOn.1 m.goOn.2 ld GL GM) :=
 z8A R m ld rw GL G1 GM w0 w1 h.nb h.ld h.rl h.ma h.nr h.ph h.has h.len h.c h.ok h.g h.kp
theorem z2E.wr {ld:Value} (h:z2E w0 w1 R m ld rw GL G1 GM) (ev:Int) (he:zfN ev=true) (er:Nat) :
    Calls Tryz.prog 140 #[.pointer (some ⟨R,0,none⟩),.int .i64 ev,.int .i64 (er:Nat)] w1 (RT w0 R (m.wrong ev er).1 (m.wrong ev er).2 ld GL GM):=by
 refine(z6B R m m.c ld rw ev er w1 h.nb h.ok he).mono ?_
 intro e w' q
 have hph:(m.wrong ev er).1.ph≠2/\(m.wrong ev er).1.ph≠3:=by
  unfold Nd.wrong
  show(if(z14 m.fa ev).O then 10 else 5)≠2/\(if(z14 m.fa ev).O then 10 else 5)≠3
  split<;>omega
 refine NT.rt h.kp q rfl ?_ ?_ hph
 ·unfold Nd.count
  rw[if_neg hph.2]
  rfl
 ·exact h.hl
theorem z2E.lost {ld:Value} (h:z2E w0 w1 R m ld rw GL G1 GM) (a:Option Addr) (cap:Nat) (hbs:Bs w1 a cap m.sta.l) (hab:∀b o t,a=some ⟨b,o,t⟩->G1 b\/w0.heap.size<=b) :
    Calls Tryz.prog 142 #[.pointer (some ⟨R,0,none⟩),z1V m.sta (.slice a m.sta.l.length cap)] w1 (RT w0 R (Nd.heard { m with ph:=3,c:=0,snd:=false } 3).1 (Nd.heard { m with ph:=3,c:=0,snd:=false } 3).2 ld GL GM) :=
 zfG R m m.c ld rw GL G1 GM a cap w0 w1 h.nb h.ma h.nr h.ok hbs hab h.hl h.g h.lt h.kp
theorem z43 (R:Nat) (n:Nd) (ld rw:Value) (GL GM:Nat->Prop) (b:Nat) (w:World) (h:NB w R n n.c ld rw) (hld:z1e w ld n.f n.l GL) (hRL:¬GL R) (hap:∀k,GL k->¬GM k) (hm:z0l w rw n.kn n.x GM) (hR:¬GM R) (hp:n.ph=2) (hhas:n.has=true) (hfr:Fr n.f n.l) (hc:n.c < (zn n.f n.l).length+10) (ho:z2D n.fa=true) (hb:b<=1) (hx:n.x.length<=65000) (hB:z0i w) (hcx:CxN w R GL GM) :
    Calls Tryz.prog 116 #[.pointer (some ⟨R,0,none⟩),.int .u8 (b:Nat)] w (RT w R (n.send b).1 (n.send b).2 ld GL GM):=by
 obtain⟨w0,HW0,N0,S0,X0⟩:=ev0 w
 have CX:=zH hcx
 have hRw:=NB.lt h
 have hln:=hfr.len.1
 have hln2:=hfr.raw_len.2
 have h0:=h.nb N0.out
 have hld0:=hld.nb N0.out
 have hm0:=z03 hm (Kp.ofNb (F:=fun _=>False) N0.out) (fun _ _ h=>h)
 have cx0:=hcx.up N0.out.size
 have HS:=zH (zbs rw n.kn n.x GM b w0 hm0 hb hx (hB.below N0.out))
 obtain⟨c0,c1,c2,c3,c4,c5,c6,c7,c8,c9⟩:=Blk.c10 (h)
 obtain⟨m,hmn⟩:∃m:Nd,m={ n with x:=n.x++[b] }:=⟨_,rfl⟩
 have HSA:=zH (fun w1 G1 (m1:z0l w1 rw n.kn (n.x++[b]) G1) (k1:Kp GM w0 w1) (g1:∀k,G1 k->GM k\/w0.heap.size<=k) =>
  (show z2E w0 w1 R m ld rw GL G1 GM from by
   rw[hmn]
   exact⟨h0.keep k1 hR,hld0.keep k1 hap,hRL,m1,fun hg=>by
    rcases g1 R hg with h1 | h1
    ·exact hR h1
    ·have:=NB.lt h0;omega,hp,hhas,by show(wF n.f n.l).length<=_;omega,by show n.c < (wF n.f n.l).length;omega,ho,g1,NB.lt h0,k1.mono (fun _ _ h => .inr h)⟩))
 have hsta:m.sta=zW (scS n.kn (n.x++[b])):=by rw[hmn];rfl
 have hcm:m.c=n.c:=by rw[hmn]
 have hfm:m.f=n.f:=by rw[hmn]
 have hlm:m.l=n.l:=by rw[hmn]
 have hrw:n.send b=(if m.c=z2P m.f m.l then(if b=1 then m.wrong 5 9 else m.goOn)else if b=(wF m.f m.l).getD m.c 0 then m.goOn else if(wF m.f m.l).getD m.c 0=1/\m.c < z2J m.f m.l then Nd.heard { m with ph:=3,c:=0,snd:=false } 3 else m.wrong 3 5):=by
  rw[hmn];rfl
 have hy:=hfr.w_bit hc
 rw[<- hcm,<- hfm,<- hlm]at hy
 obtain⟨y,hyy⟩:∃y,(wF m.f m.l).getD m.c 0=y:=⟨_,rfl⟩
 rw[hyy]at hy hrw
 have HLN:Hid ((wF m.f m.l).length<=70000/\m.c < (wF m.f m.l).length):=zH (by rw[hcm,hfm,hlm];omega)
 rw[hrw]
 unfold zl4 at HS
 rw[<- hsta]at HS
 obtain⟨s,hs⟩:∃s,m.sta=s:=⟨_,rfl⟩
 rw[hs]at HS
 have HST:=zH hs
 have XC:=zH (X0.out)
 clear h h0 hld hld0 hRL hap hm hm0 cx0 hR hp hhas hfr hc ho hx hB hcx hmn hsta hcm hfm hlm hrw hln hln2 hs
 obtain⟨sk,se,⟨K,I,X,Rr,B,E,S,Dd,V,A⟩,sl⟩:=s
 simp only[z1V]at HS
 obtain⟨⟨rn,⟨ek,ee,⟨eK,eI,eX,eR,eB,eE,eS,eD,eV,eA⟩,el⟩⟩,hr⟩:∃r:Nd × Ev,r=(if m.c=z2P m.f m.l then(if b=1 then m.wrong 5 9 else m.goOn)else if b=y then m.goOn else if y=1/\m.c < z2J m.f m.l then Nd.heard { m with ph:=3,c:=0,snd:=false } 3 else m.wrong 3 5):=⟨_,rfl⟩
 rw[<- hr]
 have HRR:=zH hr
 have HYY:=zH hyy
 clear hr hyy
 go_enter Tryz.func116,Tryz.ntmps116
 go_wp2_with fail
 rw[<- HW0.out]
 refine HS.out.mono ?_
 rintro e w1 ⟨G1,⟨a,cp,rfl,hbs,hab⟩,m1,k1,g1⟩
 have hsa:=HSA.out w1 G1 m1 k1 g1
 obtain⟨w2,hw2⟩:∃w2,w2=w1.alloc (.cells #[.int .i64 sk,.int .i64 se,.int .i64 K,.int .u32 I,.bool X,.bool Rr,.bool B,.bool E,.bool S,.int .u8 Dd,.int .u8 V,.int .u32 A,.slice a sl.length cp] 173):=⟨_,rfl⟩
 have n2:Nb w1 w2:=by rw[hw2];exact Nb.rfl.al _
 have Y2:=zH (show Blk w2 w1.heap.size #[.int .i64 sk,.int .i64 se,.int .i64 K,.int .u32 I,.bool X,.bool Rr,.bool B,.bool E,.bool S,.int .u8 Dd,.int .u8 V,.int .u32 A,.slice a sl.length cp] 173 by rw[hw2];exact Blk.new w1 _ _)
 have X2:=zH ((X0.out.keep k1 (fun hg=>by have:=CX.out.gm _ hg;omega)).nb n2)
 have S2:=zH (hsa.next n2)
 have B2:=zH (hbs.below n2)
 have HAB:=zH hab
 have HW2:=zH hw2
 clear c0 c1 c2 c3 c4 c5 c6 c7 c8 c9
 clear m1 k1 g1 hbs hab hsa hw2 n2 HS HSA
 go_wp2_with fail
 rw[<- HW2.out]
 have hdr:=fun w' (k:Nb w2 w')=>z3K R m m.c ld rw GL w' (S2.out.nb.nb k) (S2.out.ld.nb k) HLN.out.2 HLN.out.1
 rw[HYY.out]at hdr
 have HDR:=zH hdr
 obtain⟨L,aa,ca,aw,cw,rfl,hbL,_⟩:=S2.out.ld
 obtain⟨c0,c1,c2,c3,c4,c5,c6,c7,c8,c9⟩:=Blk.c10 (S2.out.nb)
 obtain⟨z0,z1,z2,z3,z4,z5,z6,z7,z8,z9,z10,z11,z12,z13⟩:=Blk.c14 (hbL)
 have HBL:=zH hbL
 have hR2:R < w2.heap.size:=NB.lt S2.out.nb
 have hL2:L < w2.heap.size:=hbL.lt
 clear hdr hbL
 have KC:=zH (fun w' (k:Nb w2 w')=>(⟨(Blk.c10 (S2.out.nb.nb k)).2.2.2.2.2.2.1,(Blk.c14 (HBL.out.nb k)).2.2.2.2.2.2.2.2.2.2.2.1,(Blk.c14 (HBL.out.nb k)).2.2.2.2.2.2.2.2.2.2.2.2.1,(Blk.c14 (HBL.out.nb k)).2.2.2.2.2.2.2.2.2.2.2.2.2⟩:w'.cell? ⟨R,6,none⟩=some (.pointer (some ⟨L,0,none⟩))/\w'.cell? ⟨L,11,none⟩=some (.slice aw (wF m.f m.l).length cw)/\w'.cell? ⟨L,12,none⟩=some (.int .i64 (z2J m.f m.l:Nat))/\w'.cell? ⟨L,13,none⟩=some (.int .i64 (z2P m.f m.l:Nat))))
 go_cut [7,8]from 18 to 26 (fun s7 s8 wx=>s7 = .pointer (some ⟨w2.heap.size,0,none⟩)/\s8 = .int .u8 (y:Nat)/\∃k,wx=p3 ((w2.alloc (.cells #[.slice none 0 0,.int .i64 0,.int .i64 0] 52)).drewN k) w2.heap.size (.slice aw (wF m.f m.l).length cw) (.int .i64 (z2J m.f m.l:Nat)) (.int .i64 (z2P m.f m.l:Nat)))
 case first =>
  go_region_with ((go_at_call 93;refine(HDR.out _ (by first | exact Nb.drewN _ _ | exact(Nb.rfl.al _).tr (Nb.drewN _ _))).mono ?_;rintro e w5 ⟨rfl,kd,rfl⟩;have D5:Blk ((w2.drewN (1+kd)).alloc (.cells #[.slice none 0 0,.int .i64 0,.int .i64 0] 52)) w2.heap.size #[.slice none 0 0,.int .i64 0,.int .i64 0] 52:=Blk.new (w2.drewN (1+kd)) _ _;have D6:Blk ((w2.alloc (.cells #[.slice none 0 0,.int .i64 0,.int .i64 0] 52)).drewN (1+kd)) w2.heap.size #[.slice none 0 0,.int .i64 0,.int .i64 0] 52:=Blk.new w2 _ _;obtain⟨g0,g1,g2⟩:=D5.f3;obtain⟨q0,q1,q2⟩:=D5.c3;obtain⟨g0',g1',g2'⟩:=D6.f3;obtain⟨q0',q1',q2'⟩:=D6.c3;clear D5 D6;obtain⟨k6,k11,k12,k13⟩:=KC.out ((w2.drewN (1+kd)).alloc (.cells #[.slice none 0 0,.int .i64 0,.int .i64 0] 52)) ((Nb.drewN _ _).al _)))
  all_goals (go_wp2_with fail;go_meet;exact⟨rfl,rfl,_,rfl⟩)
 case rest =>
 obtain⟨rfl,rfl,kd,hwc⟩:=hcut
 have n26:Nb w2 wc:=by rw[hwc];exact z3R ((Nb.rfl.al _).tr (Nb.drewN _ _)) (Nat.le_refl _) _ _ _
 have b26:Blk wc w2.heap.size #[.slice aw (wF m.f m.l).length cw,.int .i64 (z2J m.f m.l:Nat),.int .i64 (z2P m.f m.l:Nat)] 52:=by rw[hwc];exact zia _ _ _ (Blk.new w2 _ _)
 have S6:=zH (S2.out.next n26)
 have B6:=zH (B2.out.below n26)
 have Y6:=zH (Y2.out.nb n26)
 have hR6:R < wc.heap.size:=NB.lt S6.out.nb
 obtain⟨c0,c1,c2,c3,c4,c5,c6,c7,c8,c9⟩:=Blk.c10 (S6.out.nb)
 obtain⟨x0,x1,x2,x3,x4,x5,x6,x7,x8,x9,x10,x11,x12⟩:=(Blk.h13 (Y6.out)).2.1
 obtain⟨g0,g1,g2⟩:=b26.c3
 clear KC
 clear hwc n26 b26 HW2
 by_cases hA:m.c=z2P m.f m.l
 ·by_cases hb1:b=1
  ·have hr:((rn,⟨ek,ee,⟨eK,eI,eX,eR,eB,eE,eS,eD,eV,eA⟩,el⟩):Nd × Ev)=m.wrong 5 9:=by rw[HRR.out,if_pos hA,if_pos hb1]
   have dA:(((m.c:Nat):Int)==((z2P m.f m.l:Nat):Int))=true:=by rw[beq_iff_eq];omega
   have d1:((b:Int)==1)=true:=by rw[beq_iff_eq];omega
   have HCL:=zH (fun w7 (k:Nb wc w7)=>(show Calls Tryz.prog 140 #[.pointer (some ⟨R,0,none⟩),.int .i64 5,.int .i64 9] w7 (RT w0 R rn ⟨ek,ee,⟨eK,eI,eX,eR,eB,eE,eS,eD,eV,eA⟩,el⟩ (.pointer (some ⟨L,0,none⟩)) GL GM)from by
    have q:=(S6.out.next k).wr 5 (by decide) 9
    rw[<- hr]at q
    exact q))
   clear hr hA hb1
   go_wp2_with fail
   go_quiet (fail)
   go_wp2_with fail
   refine(HCL.out _ (Nb.drewN _ _)).mono ?_
   intro e w8 q
   have X8:=zH (X0.out.keep q.kp (fun hg=>by
    rcases hg with h | h
    ·omega
    ·have:=CX.out.gm _ h;omega))
   obtain⟨a8,c8,rfl,q⟩:=q.is
   have Z:=zH q
   clear q
   simp only[evV,z1V]
   go_wp2_with (refine wpR (X8.out) ?_)
   have kq:=Kp.row w8 (w.heap.size) (z0b (⟨ek,ee,⟨eK,eI,eX,eR,eB,eE,eS,eD,eV,eA⟩,el⟩:Sta) (.slice a8 el.length c8))
   exact zI (Blk.row (X8.out) (z0b (⟨ek,ee,⟨eK,eI,eX,eR,eB,eE,eS,eD,eV,eA⟩,el⟩:Sta) (.slice a8 el.length c8))) (RT.mk N0.out Z.out kq CX.out (Nat.le_refl _) (by have:=S0.out;omega))
  ·have hr:((rn,⟨ek,ee,⟨eK,eI,eX,eR,eB,eE,eS,eD,eV,eA⟩,el⟩):Nd × Ev)=m.goOn:=by rw[HRR.out,if_pos hA,if_neg hb1]
   have dA:(((m.c:Nat):Int)==((z2P m.f m.l:Nat):Int))=true:=by rw[beq_iff_eq];omega
   have d1:((b:Int)==1)=false:=by rw[beq_eq_false_iff_ne];omega
   have HCL:=zH (fun w7 (k:Nb wc w7)=>(show Calls Tryz.prog 141 #[.pointer (some ⟨R,0,none⟩)] w7 (RT w0 R rn ⟨ek,ee,⟨eK,eI,eX,eR,eB,eE,eS,eD,eV,eA⟩,el⟩ (.pointer (some ⟨L,0,none⟩)) GL GM)from by
    have q:=(S6.out.next k).sent
    rw[<- hr]at q
    exact q))
   clear hr hA hb1
   go_wp2_with fail
   go_quiet (fail)
   go_wp2_with fail
   go_quiet (fail)
   go_wp2_with fail
   refine(HCL.out _ (Nb.drewN _ _)).mono ?_
   intro e w8 q
   have X8:=zH (X0.out.keep q.kp (fun hg=>by
    rcases hg with h | h
    ·omega
    ·have:=CX.out.gm _ h;omega))
   obtain⟨a8,c8,rfl,q⟩:=q.is
   have Z:=zH q
   clear q
   simp only[evV,z1V]
   go_wp2_with (refine wpR (X8.out) ?_)
   have kq:=Kp.row w8 (w.heap.size) (z0b (⟨ek,ee,⟨eK,eI,eX,eR,eB,eE,eS,eD,eV,eA⟩,el⟩:Sta) (.slice a8 el.length c8))
   exact zI (Blk.row (X8.out) (z0b (⟨ek,ee,⟨eK,eI,eX,eR,eB,eE,eS,eD,eV,eA⟩,el⟩:Sta) (.slice a8 el.length c8))) (RT.mk N0.out Z.out kq CX.out (Nat.le_refl _) (by have:=S0.out;omega))
 ·by_cases hY:b=y
  ·have hr:((rn,⟨ek,ee,⟨eK,eI,eX,eR,eB,eE,eS,eD,eV,eA⟩,el⟩):Nd × Ev)=m.goOn:=by rw[HRR.out,if_neg hA,if_pos hY]
   have dA:(((m.c:Nat):Int)==((z2P m.f m.l:Nat):Int))=false:=by rw[beq_eq_false_iff_ne];omega
   have dY:((b:Int)==(y:Int))=true:=by rw[beq_iff_eq];omega
   have HCL:=zH (fun w7 (k:Nb wc w7)=>(show Calls Tryz.prog 141 #[.pointer (some ⟨R,0,none⟩)] w7 (RT w0 R rn ⟨ek,ee,⟨eK,eI,eX,eR,eB,eE,eS,eD,eV,eA⟩,el⟩ (.pointer (some ⟨L,0,none⟩)) GL GM)from by
    have q:=(S6.out.next k).sent
    rw[<- hr]at q
    exact q))
   clear hr hA hY
   go_wp2_with fail
   go_quiet (fail)
   go_wp2_with fail
   go_quiet (fail)
   go_wp2_with fail
   refine(HCL.out _ (Nb.drewN _ _)).mono ?_
   intro e w8 q
   have X8:=zH (X0.out.keep q.kp (fun hg=>by
    rcases hg with h | h
    ·omega
    ·have:=CX.out.gm _ h;omega))
   obtain⟨a8,c8,rfl,q⟩:=q.is
   have Z:=zH q
   clear q
   simp only[evV,z1V]
   go_wp2_with (refine wpR (X8.out) ?_)
   have kq:=Kp.row w8 (w.heap.size) (z0b (⟨ek,ee,⟨eK,eI,eX,eR,eB,eE,eS,eD,eV,eA⟩,el⟩:Sta) (.slice a8 el.length c8))
   exact zI (Blk.row (X8.out) (z0b (⟨ek,ee,⟨eK,eI,eX,eR,eB,eE,eS,eD,eV,eA⟩,el⟩:Sta) (.slice a8 el.length c8))) (RT.mk N0.out Z.out kq CX.out (Nat.le_refl _) (by have:=S0.out;omega))
  ·by_cases hQ:y=1/\m.c < z2J m.f m.l
   ·have hr:((rn,⟨ek,ee,⟨eK,eI,eX,eR,eB,eE,eS,eD,eV,eA⟩,el⟩):Nd × Ev)=Nd.heard { m with ph:=3,c:=0,snd:=false } 3:=by rw[HRR.out,if_neg hA,if_neg hY,if_pos hQ]
    have dA:(((m.c:Nat):Int)==((z2P m.f m.l:Nat):Int))=false:=by rw[beq_eq_false_iff_ne];omega
    have dY:((b:Int)==(y:Int))=false:=by rw[beq_eq_false_iff_ne];omega
    have dy:((y:Int)==1)=true:=by rw[beq_iff_eq];omega
    have dq:decide (((m.c:Nat):Int) < ((z2J m.f m.l:Nat):Int))=true:=decide_eq_true (by omega)
    have dq2:decide (m.c < z2J m.f m.l)=true:=decide_eq_true (by omega)
    have HCL:=zH (fun w7 (k:Nb wc w7)=>(show Calls Tryz.prog 142 #[.pointer (some ⟨R,0,none⟩),.agg #[.int .i64 sk,.int .i64 se,.int .i64 K,.int .u32 I,.bool X,.bool Rr,.bool B,.bool E,.bool S,.int .u8 Dd,.int .u8 V,.int .u32 A,.slice a sl.length cp]] w7 (RT w0 R rn ⟨ek,ee,⟨eK,eI,eX,eR,eB,eE,eS,eD,eV,eA⟩,el⟩ (.pointer (some ⟨L,0,none⟩)) GL GM)from by
     have q:=(S6.out.next k).lost a cp (by rw[HST.out];exact B6.out.below k) HAB.out
     rw[<- hr,HST.out]at q
     exact q))
    clear hr hA hY hQ
    go_wp2_with fail
    go_quiet (fail)
    go_wp2_with fail
    go_quiet (fail)
    go_wp2_with fail
    go_quiet (fail)
    go_wp2_with fail
    refine(HCL.out _ (Nb.drewN _ _)).mono ?_
    intro e w8 q
    have X8:=zH (X0.out.keep q.kp (fun hg=>by
     rcases hg with h | h
     ·omega
     ·have:=CX.out.gm _ h;omega))
    obtain⟨a8,c8,rfl,q⟩:=q.is
    have Z:=zH q
    clear q
    simp only[evV,z1V]
    go_wp2_with (refine wpR (X8.out) ?_)
    have kq:=Kp.row w8 (w.heap.size) (z0b (⟨ek,ee,⟨eK,eI,eX,eR,eB,eE,eS,eD,eV,eA⟩,el⟩:Sta) (.slice a8 el.length c8))
    exact zI (Blk.row (X8.out) (z0b (⟨ek,ee,⟨eK,eI,eX,eR,eB,eE,eS,eD,eV,eA⟩,el⟩:Sta) (.slice a8 el.length c8))) (RT.mk N0.out Z.out kq CX.out (Nat.le_refl _) (by have:=S0.out;omega))
   ·by_cases hy1:y=1
    ·have hr:((rn,⟨ek,ee,⟨eK,eI,eX,eR,eB,eE,eS,eD,eV,eA⟩,el⟩):Nd × Ev)=m.wrong 3 5:=by rw[HRR.out,if_neg hA,if_neg hY,if_neg hQ]
     have dA:(((m.c:Nat):Int)==((z2P m.f m.l:Nat):Int))=false:=by rw[beq_eq_false_iff_ne];omega
     have dY:((b:Int)==(y:Int))=false:=by rw[beq_eq_false_iff_ne];omega
     have dy:((y:Int)==1)=true:=by rw[beq_iff_eq];omega
     have dq:decide (((m.c:Nat):Int) < ((z2J m.f m.l:Nat):Int))=false:=decide_eq_false (by omega)
     have dq2:decide (m.c < z2J m.f m.l)=false:=decide_eq_false (by omega)
     have HCL:=zH (fun w7 (k:Nb wc w7)=>(show Calls Tryz.prog 140 #[.pointer (some ⟨R,0,none⟩),.int .i64 3,.int .i64 5] w7 (RT w0 R rn ⟨ek,ee,⟨eK,eI,eX,eR,eB,eE,eS,eD,eV,eA⟩,el⟩ (.pointer (some ⟨L,0,none⟩)) GL GM)from by
      have q:=(S6.out.next k).wr 3 (by decide) 5
      rw[<- hr]at q
      exact q))
     clear hr hA hY hy1
     clear hQ
     go_wp2_with fail
     go_quiet (fail)
     go_wp2_with fail
     go_quiet (fail)
     go_wp2_with fail
     go_quiet (fail)
     go_wp2_with fail
     refine(HCL.out _ (Nb.drewN _ _)).mono ?_
     intro e w8 q
     have X8:=zH (X0.out.keep q.kp (fun hg=>by
      rcases hg with h | h
      ·omega
      ·have:=CX.out.gm _ h;omega))
     obtain⟨a8,c8,rfl,q⟩:=q.is
     have Z:=zH q
     clear q
     simp only[evV,z1V]
     go_wp2_with (refine wpR (X8.out) ?_)
     have kq:=Kp.row w8 (w.heap.size) (z0b (⟨ek,ee,⟨eK,eI,eX,eR,eB,eE,eS,eD,eV,eA⟩,el⟩:Sta) (.slice a8 el.length c8))
     exact zI (Blk.row (X8.out) (z0b (⟨ek,ee,⟨eK,eI,eX,eR,eB,eE,eS,eD,eV,eA⟩,el⟩:Sta) (.slice a8 el.length c8))) (RT.mk N0.out Z.out kq CX.out (Nat.le_refl _) (by have:=S0.out;omega))
    ·have hr:((rn,⟨ek,ee,⟨eK,eI,eX,eR,eB,eE,eS,eD,eV,eA⟩,el⟩):Nd × Ev)=m.wrong 3 5:=by rw[HRR.out,if_neg hA,if_neg hY,if_neg hQ]
     have dA:(((m.c:Nat):Int)==((z2P m.f m.l:Nat):Int))=false:=by rw[beq_eq_false_iff_ne];omega
     have dY:((b:Int)==(y:Int))=false:=by rw[beq_eq_false_iff_ne];omega
     have dy:((y:Int)==1)=false:=by rw[beq_eq_false_iff_ne];omega
     have HCL:=zH (fun w7 (k:Nb wc w7)=>(show Calls Tryz.prog 140 #[.pointer (some ⟨R,0,none⟩),.int .i64 3,.int .i64 5] w7 (RT w0 R rn ⟨ek,ee,⟨eK,eI,eX,eR,eB,eE,eS,eD,eV,eA⟩,el⟩ (.pointer (some ⟨L,0,none⟩)) GL GM)from by
      have q:=(S6.out.next k).wr 3 (by decide) 5
      rw[<- hr]at q
      exact q))
     clear hr hA hY hy1
     clear hQ
     go_wp2_with fail
     go_quiet (fail)
     go_wp2_with fail
     go_quiet (fail)
     go_wp2_with fail
     go_quiet (fail)
     go_wp2_with fail
     refine(HCL.out _ (Nb.drewN _ _)).mono ?_
     intro e w8 q
     have X8:=zH (X0.out.keep q.kp (fun hg=>by
      rcases hg with h | h
      ·omega
      ·have:=CX.out.gm _ h;omega))
     obtain⟨a8,c8,rfl,q⟩:=q.is
     have Z:=zH q
     clear q
     simp only[evV,z1V]
     go_wp2_with (refine wpR (X8.out) ?_)
     have kq:=Kp.row w8 (w.heap.size) (z0b (⟨ek,ee,⟨eK,eI,eX,eR,eB,eE,eS,eD,eV,eA⟩,el⟩:Sta) (.slice a8 el.length c8))
     exact zI (Blk.row (X8.out) (z0b (⟨ek,ee,⟨eK,eI,eX,eR,eB,eE,eS,eD,eV,eA⟩,el⟩:Sta) (.slice a8 el.length c8))) (RT.mk N0.out Z.out kq CX.out (Nat.le_refl _) (by have:=S0.out;omega))
theorem zlq(h:n.ph=1)(b:Nat):n.step b=if n.has then Nd.send { n with x:=[],snd:=true,ph:=2,c:=0 } b else(if b=0 then Nd.begin { n with snd:=false } else { n with snd:=false },z02):=by
 unfold Nd.step;rw[if_neg (by omega),if_pos h]
theorem zlv(h:n.ph=2)(b:Nat):n.step b=n.send b:=by unfold Nd.step;rw[if_neg (by omega),if_neg (by omega),if_pos h]
theorem zlE(h:n.ph=3)(b:Nat):n.step b=Nd.heard { n with x:=n.x++[b] } 0:=by unfold Nd.step;rw[if_neg (by omega),if_neg (by omega),if_neg (by omega),if_pos h]
theorem z7A(R:Nat)(n:Nd)(ld:Value)(GL GM:Nat->Prop)(b:Nat)(w:World)(h:NB w R n n.c ld (.pointer none))(hl:ld=if n.has then ld else .pointer none)(hcx:CxN w R GL GM)(hp:n.ph=8)(hc:n.c < 3)(hb1:b<=1)(ho:z2D n.fa=true)(hB:z0i w):Calls Tryz.prog 121 #[.pointer (some ⟨R,0,none⟩),.int .u8 (b:Nat)] w (RT w R (n.step b).1 (n.step b).2 ld GL GM):=by
 have CX:=zH hcx
 have hRw:=hcx.lt
 obtain⟨w0,HW0,N0,S0,X0⟩:=ev0 w
 have HO:=zH (fun w' p (q:NB w' R n n.c ld (.pointer none))=>z32 R n n.c ld 3 p w' q rfl (by omega))
 have HH:=zH (z5O R n n.c ld (.pointer none) GL GM w0 (h.nb N0.out) ho (hB.below N0.out) hl (hcx.up N0.out.size))
 have HM:=zH (z8z R n n.c ld (.pointer none) w0 (h.nb N0.out) ho)
 have HG:=zH (z0Y R n n.c ld (.pointer none) 6 w0 (h.nb N0.out))
 rw[zm5 hp]
 have HF:=zH (fun p (hpp:p≠2/\p≠3) w' q k=>NT.rt (GL:=GL) (GM:=GM) (ev:=z02) (ld0:=ld) (e := .returned z1d) (w':=w') Kp.rfl (⟨rfl,q,k⟩:NT w0 R (if n.c+1=3 then n.to p else { n with c:=n.c+1 }) (if n.c+1=3 then n.to p else { n with c:=n.c+1 }).c ld (.pointer none) z1d _ w') rfl (z3J n 3 p ⟨by omega,by omega⟩ hpp).2.2 (by rw[(z3J n 3 p ⟨by omega,by omega⟩ hpp).1];exact hl) (z3J n 3 p ⟨by omega,by omega⟩ hpp).2.1)
 have HF6:=zH (fun w' q k=>NT.rt (GL:=GL) (GM:=GM) (ev:=z02) (ld0:=ld) (e := .returned z1d) (w':=w') Kp.rfl (⟨rfl,q,k⟩:NT w0 R (n.to 6) 0 ld (.pointer none) z1d _ w') rfl rfl hl ⟨by show(6:Nat)≠2;omega,by show(6:Nat)≠3;omega⟩)
 obtain⟨c0,c1,c2,c3,c4,c5,c6,c7,c8,c9⟩:=Blk.c10 (h)
 have H:=zH h
 clear h hl ho hB hp hcx
 by_cases hb:b=0
 ·subst hb
  by_cases h2:n.c=2
  ·rw[show n.pause 0=n.begin from by unfold Nd.pause;rw[if_pos rfl,if_pos h2]]
   have dc:((n.c:Nat):Int)=2:=by omega
   rw[dc]at c2
   clear h2 hc dc HO HF HF6 HM HG
   go_enter Tryz.func121,Tryz.ntmps121
   go_wp2_with fail
   rw[<- HW0.out]
   refine(HH.out).mono ?_
   intro e w1 q
   have X1:=zH (X0.out.keep q.kp (fun hg=>by
    rcases hg with h | h
    ·omega
    ·have:=CX.out.gm _ h;omega))
   obtain⟨a1,cp1,rfl,q⟩:=q.is
   have Z:=zH q
   clear q
   go_wp2_with (refine wpR (X1.out) ?_)
   have kq:=Kp.row w1 (w.heap.size) (z0b zM (.slice a1 0 cp1))
   exact zI (Blk.row (X1.out) (z0b zM (.slice a1 0 cp1))) (RT.mk N0.out Z.out kq CX.out (Nat.le_refl _) (by have:=S0.out;omega))
  ·rw[show n.pause 0=n.to 6 from by unfold Nd.pause;rw[if_pos rfl,if_neg h2]]
   have dc:(((n.c:Nat):Int)==2)=false:=by rw[beq_eq_false_iff_ne];omega
   clear h2 hc HO HF HH HM
   go_enter Tryz.func121,Tryz.ntmps121
   go_wp2_with fail
   rw[<- HW0.out]
   refine(HG.out).mono ?_
   rintro e w1 ⟨rfl,q1,k1⟩
   have Z:=zH (HF6.out _ q1 k1)
   have X1:=zH (X0.out.keep k1 (by have:=CX.out.lt;omega))
   clear q1 k1
   go_wp2_with (refine wpR (X1.out) ?_)
   have kq:=Kp.row w1 (w.heap.size) (z0b zM (.slice none 0 0))
   exact zI (Blk.row (X1.out) (z0b zM (.slice none 0 0))) (RT.mk N0.out Z.out kq CX.out (Nat.le_refl _) (by have:=S0.out;omega))
 ·obtain rfl:b=1:=by omega
  have hp1:n.pause 1=if n.c+1=3 then n.to (if n.snd=true/\z2L n.fa=1 then 9 else 1)else { n with c:=n.c+1 }:=by unfold Nd.pause;rw[if_neg hb]
  clear hb hb1 HH HG HF6 hc
  have hm2:z2L n.fa<=2:=by unfold z2L;(repeat' split)<;>omega
  obtain⟨fm,hfm⟩:∃m,z2L n.fa=m:=⟨_,rfl⟩
  rw[hfm]at HM hm2
  have HFM:=zH hfm
  clear hfm
  obtain⟨sd,hsd⟩:∃sd,n.snd=sd:=⟨_,rfl⟩
  rw[hsd]at c8
  have HSD:=zH hsd
  clear hsd
  cases sd
  ·rw[show n.pause 1=if n.c+1=3 then n.to 1 else { n with c:=n.c+1 } by rw[hp1,if_neg (show ¬(n.snd=true/\z2L n.fa=1) by rw[HSD.out];simp)]]
   clear hp1
   have HS:=zH (HO.out w0 1 (H.out.nb N0.out))
   obtain⟨m,hm⟩:∃m,(if n.c+1=3 then n.to 1 else { n with c:=n.c+1 })=m:=⟨_,rfl⟩
   rw[hm]at HS ⊢
   have HFm:=zH (fun(w':World) (q:NB w' R m m.c ld (.pointer none)) (k:Kp (fun b=>b=R) w0 w')=>(show RT w0 R m z02 ld GL GM (.returned z1d) w' from by
    have hpp:(1:Nat)≠2/\(1:Nat)≠3:=by omega
    have z:=HF.out 1 hpp w' (by rw[hm];exact q) k
    rw[hm]at z
    exact z))
   clear hm HF
   clear HM HO
   go_enter Tryz.func121,Tryz.ntmps121
   go_wp2_with fail
   rw[<- HW0.out]
   refine(HS.out).mono ?_
   rintro e w1 ⟨rfl,q1,k1⟩
   have Z:=zH (HFm.out _ q1 k1)
   have X1:=zH (X0.out.keep k1 (by have:=CX.out.lt;omega))
   clear q1 k1
   go_wp2_with (refine wpR (X1.out) ?_)
   have kq:=Kp.row w1 (w.heap.size) (z0b zM (.slice none 0 0))
   exact zI (Blk.row (X1.out) (z0b zM (.slice none 0 0))) (RT.mk N0.out Z.out kq CX.out (Nat.le_refl _) (by have:=S0.out;omega))
  ·by_cases h1:fm=1
   ·subst h1
    rw[show n.pause 1=if n.c+1=3 then n.to 9 else { n with c:=n.c+1 } by rw[hp1,if_pos (show(n.snd=true/\z2L n.fa=1) from⟨HSD.out,HFM.out⟩)]]
    clear hp1
    have HS:=zH (fun w' (k:Nb w0 w')=>HO.out w' 9 ((H.out.nb N0.out).nb k))
    obtain⟨m,hm⟩:∃m,(if n.c+1=3 then n.to 9 else { n with c:=n.c+1 })=m:=⟨_,rfl⟩
    rw[hm]at HS ⊢
    have HFm:=zH (fun(w':World) (q:NB w' R m m.c ld (.pointer none)) (k:Kp (fun b=>b=R) w0 w')=>(show RT w0 R m z02 ld GL GM (.returned z1d) w' from by
     have hpp:(9:Nat)≠2/\(9:Nat)≠3:=by omega
     have z:=HF.out 9 hpp w' (by rw[hm];exact q) k
     rw[hm]at z
     exact z))
    clear hm HF
    clear HO
    go_enter Tryz.func121,Tryz.ntmps121
    go_wp2_with fail
    rw[<- HW0.out]
    refine HM.out.mono ?_
    rintro e wm ⟨rfl,nm⟩
    have HS1:=zH (HS.out wm nm)
    have NM:=zH nm
    clear c0 c1 c2 c3 c4 c5 c6 c7 c8 c9
    clear nm HM
    go_wp2_with fail
    refine HS1.out.mono ?_
    rintro e w1 ⟨rfl,q1,k1⟩
    have Z:=zH (HFm.out _ q1 (Kp.nr NM.out k1))
    have X1:=zH ((X0.out.nb NM.out).keep k1 (by have:=CX.out.lt;omega))
    clear q1 k1
    go_wp2_with (refine wpR (X1.out) ?_)
    have kq:=Kp.row w1 (w.heap.size) (z0b zM (.slice none 0 0))
    exact zI (Blk.row (X1.out) (z0b zM (.slice none 0 0))) (RT.mk N0.out Z.out kq CX.out (Nat.le_refl _) (by have:=S0.out;omega))
   ·have d1:((fm:Int)==1)=false:=by rw[beq_eq_false_iff_ne];omega
    rw[show n.pause 1=if n.c+1=3 then n.to 1 else { n with c:=n.c+1 } by rw[hp1,if_neg (show ¬(n.snd=true/\z2L n.fa=1) by rw[HFM.out];omega)]]
    clear hp1
    have HS:=zH (fun w' (k:Nb w0 w')=>HO.out w' 1 ((H.out.nb N0.out).nb k))
    obtain⟨m,hm⟩:∃m,(if n.c+1=3 then n.to 1 else { n with c:=n.c+1 })=m:=⟨_,rfl⟩
    rw[hm]at HS ⊢
    have HFm:=zH (fun(w':World) (q:NB w' R m m.c ld (.pointer none)) (k:Kp (fun b=>b=R) w0 w')=>(show RT w0 R m z02 ld GL GM (.returned z1d) w' from by
     have hpp:(1:Nat)≠2/\(1:Nat)≠3:=by omega
     have z:=HF.out 1 hpp w' (by rw[hm];exact q) k
     rw[hm]at z
     exact z))
    clear hm HF
    clear HO h1 hm2
    go_enter Tryz.func121,Tryz.ntmps121
    go_wp2_with fail
    rw[<- HW0.out]
    refine HM.out.mono ?_
    rintro e wm ⟨rfl,nm⟩
    have HS1:=zH (HS.out wm nm)
    have NM:=zH nm
    clear c0 c1 c2 c3 c4 c5 c6 c7 c8 c9
    clear nm HM
    go_wp2_with fail
    refine HS1.out.mono ?_
    rintro e w1 ⟨rfl,q1,k1⟩
    have Z:=zH (HFm.out _ q1 (Kp.nr NM.out k1))
    have X1:=zH ((X0.out.nb NM.out).keep k1 (by have:=CX.out.lt;omega))
    clear q1 k1
    go_wp2_with (refine wpR (X1.out) ?_)
    have kq:=Kp.row w1 (w.heap.size) (z0b zM (.slice none 0 0))
    exact zI (Blk.row (X1.out) (z0b zM (.slice none 0 0))) (RT.mk N0.out Z.out kq CX.out (Nat.le_refl _) (by have:=S0.out;omega))
theorem z5M(R:Nat)(n:Nd)(ld:Value)(GL GM:Nat->Prop)(b:Nat)(w:World)(h:NB w R n n.c ld (.pointer none))(hl:ld=if n.has then ld else .pointer none)(hcx:CxN w R GL GM)(hp:n.ph=11)(hc:n.c < 176)(ho:z2D n.fa=true):Calls Tryz.prog 124 #[.pointer (some ⟨R,0,none⟩),.int .u8 (b:Nat)] w (RT w R (n.step b).1 (n.step b).2 ld GL GM):=by
 have CX:=zH hcx
 have hRw:=hcx.lt
 obtain⟨w0,HW0,N0,S0,X0⟩:=ev0 w
 have HO:=zH (z32 R n n.c ld 176 1 w0 (h.nb N0.out) rfl (by omega))
 have HC:=zH (fun w' m (q:NB w' R m 0 ld (.pointer none)) (ho:z2D m.fa=true)=>z22 R m 0 ld (.pointer none) 6 w' q ho (by decide))
 rw[zkL hp]
 have HO2:=zH ho
 have HP:=zH hp
 unfold Nd.back
 have HL:=zH hl
 have H:=zH h
 have hcnt:∀m:Nd,m.ph≠3->m.c=m.count:=fun m hm=>by unfold Nd.count;rw[if_neg hm]
 clear h hl hp ho hcx
 by_cases hb:b=0
 ·subst hb
  simp only[if_pos]
  have he:((n.c:Nat):Int) - ((n.c:Nat):Int)%11=((n.c / 11*11:Nat):Int):=by omega
  have hne:n.c / 11*11≠176:=by omega
  rw[if_neg hne]
  obtain⟨c0,c1,c2,c3,c4,c5,c6,c7,c8,c9⟩:=Blk.c10 (H.out)
  obtain⟨f0,f1,f2,f3,f4,f5,f6,f7,f8,f9⟩:=Blk.f10 (H.out)
  have hQ:NB (w0.drew.setCell ⟨R,2,none⟩ (.int .i64 ((n.c / 11*11:Nat):Int))) R { n with c:=n.c / 11*11 } (n.c / 11*11) ld (.pointer none):=Blk.set ((H.out.nb N0.out).nb (Nb.drewN _ 1)) 2 (.int .i64 ((n.c / 11*11:Nat):Int))
  have kQ:Kp (fun b=>b=R) w0 (w0.drew.setCell ⟨R,2,none⟩ (.int .i64 ((n.c / 11*11:Nat):Int))):=Kp.nr (Nb.drewN w0 1) (Kp.r1 _ _)
  have Z:=zH (NT.rt (GL:=GL) (GM:=GM) (ev:=z02) (ld0:=ld) (e := .returned z1d) Kp.rfl (⟨rfl,hQ,kQ⟩:NT w0 R { n with c:=n.c / 11*11 } (n.c / 11*11) ld (.pointer none) z1d _ _) rfl (hcnt { n with c:=n.c / 11*11 } (by show n.ph≠3;rw[HP.out];omega)) HL.out ⟨by show n.ph≠2;rw[HP.out];omega,by show n.ph≠3;rw[HP.out];omega⟩)
  rw[<- he]at Z hQ kQ
  have X1:=zH (X0.out.keep kQ (by omega))
  clear HO HC he hne hcnt hQ kQ
  go_enter Tryz.func124,Tryz.ntmps124
  go_wp2_with fail
  rw[<- HW0.out]
  clear c0 c1 c2 c3 c4 c5 c6 c7 c8 c9
  clear f0 f1 f2 f3 f4 f5 f6 f7 f8 f9
  obtain⟨c0,c1,c2,c3,c4,c5,c6,c7,c8,c9⟩:=Blk.c10 ((H.out.nb N0.out))
  obtain⟨f0,f1,f2,f3,f4,f5,f6,f7,f8,f9⟩:=Blk.f10 ((H.out.nb N0.out))
  go_region
  go_wp2_with (refine wpR (X1.out) ?_)
  have kq:=Kp.row (w0.drew.setCell ⟨R,2,none⟩ (.int .i64 (((n.c:Nat):Int) - ((n.c:Nat):Int)%11))) (w.heap.size) (z0b zM (.slice none 0 0))
  exact zI (Blk.row (X1.out) (z0b zM (.slice none 0 0))) (RT.mk N0.out Z.out kq CX.out (Nat.le_refl _) (by have:=S0.out;omega))
 ·have db:((b:Int)==0)=false:=by rw[beq_eq_false_iff_ne];omega
  simp only[if_neg hb]
  clear hb
  by_cases h176:n.c+1=176
  ·rw[if_pos h176]
   rw[if_pos h176]at HO
   have HF:=zH (fun w' q k=>NT.rt (GL:=GL) (GM:=GM) (ev:=z02) (ld0:=ld) (e := .returned z1d) (w':=w') Kp.rfl (⟨rfl,q,k⟩:NT w0 R { n with fa:=z14 n.fa 6,ph:=1,c:=0 } 0 ld (.pointer none) z1d _ w') rfl rfl HL.out ⟨by show(1:Nat)≠2;omega,by show(1:Nat)≠3;omega⟩)
   clear hc h176 hcnt
   go_enter Tryz.func124,Tryz.ntmps124
   go_wp2_with fail
   rw[<- HW0.out]
   refine HO.out.mono ?_
   rintro e w1 ⟨rfl,q1,k1⟩
   have HC1:=zH (HC.out w1 (n.to 1) q1 HO2.out)
   have d1:w1.cell? ⟨R,1,none⟩=some (.int .i64 1):=Blk.cell q1 1
   have K1:=zH k1
   clear q1 k1
   go_wp2_with fail
   refine HC1.out.mono ?_
   rintro e w2 ⟨rfl,q2,k2⟩
   have Z:=zH (HF.out _ q2 (K1.out.rr k2))
   have X2:=zH (X0.out.keep (K1.out.rr k2) (by omega))
   clear q2 k2 HF HO d1
   go_wp2_with (refine wpR (X2.out) ?_)
   have kq:=Kp.row w2 (w.heap.size) (z0b zM (.slice none 0 0))
   exact zI (Blk.row (X2.out) (z0b zM (.slice none 0 0))) (RT.mk N0.out Z.out kq CX.out (Nat.le_refl _) (by have:=S0.out;omega))
  ·rw[if_neg h176]
   rw[if_neg h176]at HO
   have HF:=zH (fun w' q k=>NT.rt (GL:=GL) (GM:=GM) (ev:=z02) (ld0:=ld) (e := .returned z1d) (w':=w') Kp.rfl (⟨rfl,q,k⟩:NT w0 R { n with c:=n.c+1 } (n.c+1) ld (.pointer none) z1d _ w') rfl (hcnt { n with c:=n.c+1 } (by show n.ph≠3;rw[HP.out];omega)) HL.out ⟨by show n.ph≠2;rw[HP.out];omega,by show n.ph≠3;rw[HP.out];omega⟩)
   have HPi:Hid (((n.ph:Nat):Int)=11):=zH (by rw[HP.out];rfl)
   clear hc h176 hcnt
   go_enter Tryz.func124,Tryz.ntmps124
   go_wp2_with fail
   rw[<- HW0.out]
   refine HO.out.mono ?_
   rintro e w1 ⟨rfl,q1,k1⟩
   have d1:w1.cell? ⟨R,1,none⟩=some (.int .i64 (n.ph:Nat)):=Blk.cell q1 1
   rw[HPi.out]at d1
   have Z:=zH (HF.out _ q1 k1)
   have X1:=zH (X0.out.keep k1 (by omega))
   clear q1 k1 HF HO
   go_wp2_with (refine wpR (X1.out) ?_)
   have kq:=Kp.row w1 (w.heap.size) (z0b zM (.slice none 0 0))
   exact zI (Blk.row (X1.out) (z0b zM (.slice none 0 0))) (RT.mk N0.out Z.out kq CX.out (Nat.le_refl _) (by have:=S0.out;omega))
theorem RT.mk2{w wd WW:World}{blk:Nat}{ev:Ev}{ld:Value}{e:Ending}(hn:Kp (fun k=>k=R) w w0)(r:RT w0 R m ev ld GL GM e wd)(kq:Kp (fun x=>x=blk) wd WW)(hx:CxN w R GL GM)(hb1:w.heap.size<=blk)(hb2:blk < w0.heap.size):RT w R m ev ld GL GM e WW:=by
 obtain⟨G,l2,r2,a,c,h1,h2,h3,h4,h5,h6,h7,h8,h9⟩:=r
 have hG:∀k,G k->k≠blk:=fun k hk e=>by
  rcases h7 k hk with h | h
  ·have:=hx.gm k h;omega
  ·omega
 refine⟨G,l2,r2,a,c,h1,h2.keepKp kq (fun b o t e hb => ?_),fun b o t e=>(h3 b o t e).imp id (fun h=>h.imp id (fun h=>⟨h.1,Nat.le_trans hn.size h.2⟩)),h4.keep kq (by have:=hx.lt;omega),h5,h6.keep kq hG,fun k hk=>(h7 k hk).imp id (fun h=>Nat.le_trans hn.size h),fun k hk=>Nat.lt_of_lt_of_le (h8 k hk) kq.size,((hn.mono (F':=fun k=>k=R\/GM k) (fun _ _ h => .inl h)).tr h9 (fun _ h => .inl h)).tr kq (fun k hk => .inr (hk ▸ hb1))⟩
 rcases h3 b o t e with h | h | h
 ·have:=hx.gl b h.2;omega
 ·exact hG b h.2 hb
 ·omega
theorem z7M (R:Nat) (n:Nd) (ld:Value) (GL GM:Nat->Prop) (b:Nat) (w:World) (h:NB w R n n.c ld (.pointer none)) (hl1:n.has=true->z1e w ld n.f n.l GL/\Fr n.f n.l) (hl0:n.has=false->ld = .pointer none) (hRL:¬GL R) (hcx:CxN w R GL GM) (hp:n.ph=1) (ho:z2D n.fa=true) (hb:b<=1) (hB:z0i w) :
    Calls Tryz.prog 115 #[.pointer (some ⟨R,0,none⟩),.int .u8 (b:Nat)] w (RT w R (n.step b).1 (n.step b).2 ld GL GM):=by
 have CX:=zH hcx
 have hRw:=hcx.lt
 obtain⟨c0,c1,c2,c3,c4,c5,c6,c7,c8,c9⟩:=Blk.c10 (h)
 obtain⟨f0,f1,f2,f3,f4,f5,f6,f7,f8,f9⟩:=Blk.f10 (h)
 have hws:∀sd:Bool,NB (w.setCell ⟨R,8,none⟩ (.bool sd)) R { n with snd:=sd } n.c ld (.pointer none):=fun sd=>Blk.set h 8 (.bool sd)
 have st:∀sd:Bool,∃w0,w0=(w.setCell ⟨R,8,none⟩ (.bool sd)).alloc (.cells #[.int .i64 0,.int .i64 0,.int .i64 0,.int .u32 0,.bool false,.bool false,.bool false,.bool false,.bool false,.int .u8 0,.int .u8 0,.int .u32 0,.slice none 0 0] 40)/\NB w0 R { n with snd:=sd } n.c ld (.pointer none)/\Kp (fun k=>k=R) w w0/\w0.heap.size=w.heap.size+1/\Blk w0 w.heap.size #[.int .i64 0,.int .i64 0,.int .i64 0,.int .u32 0,.bool false,.bool false,.bool false,.bool false,.bool false,.int .u8 0,.int .u8 0,.int .u32 0,.slice none 0 0] 40/\z0i w0:=fun sd=>by
  have sz:(w.setCell ⟨R,8,none⟩ (.bool sd)).heap.size=w.heap.size:=by simp[World.setCell]
  refine⟨_,rfl,NB.nb (hws sd) (Nb.rfl.al _),(Kp.r1 _ _).rn (Nb.rfl.al _),by rw[World.size_alloc,sz],?_,(h.both hB (Kp.r1 8 (.bool sd))).below (Nb.rfl.al _)⟩
  have:=Blk.new (w.setCell ⟨R,8,none⟩ (.bool sd)) #[.int .i64 0,.int .i64 0,.int .i64 0,.int .u32 0,.bool false,.bool false,.bool false,.bool false,.bool false,.int .u8 0,.int .u8 0,.int .u32 0,.slice none 0 0] 40
  rwa[sz]at this
 rw[zlq hp]
 by_cases hh:n.has=true
 ·rw[if_pos hh]
  obtain⟨hla,hfr⟩:=hl1 hh
  obtain⟨w0,hw0,q0,k0,s0,x0,b0⟩:=st true
  obtain⟨⟨rn,⟨ek,ee,⟨eK,eI,eX,eR,eB,eE,eS,eD,eV,eA⟩,el⟩⟩,hr⟩:∃r:Nd × Ev,r=Nd.send { n with x:=[],snd:=true,ph:=2,c:=0 } b:=⟨_,rfl⟩
  have HBR:=zH (z41 R { n with snd:=true } n.c ld (.pointer none) 2 w0 q0 b0)
  have HTS:=zH (fun w' rw' G (k2:Kp (fun b=>b=R) w0 w') (q:NB w' R { n with x:=[],snd:=true,ph:=2,c:=0 } 0 ld rw') (m:z0l w' rw' n.kn [] G) (g:∀k,G k->w0.heap.size<=k) =>
   (show Calls Tryz.prog 116 #[.pointer (some ⟨R,0,none⟩),.int .u8 (b:Nat)] w' (RT w0 R rn ⟨ek,ee,⟨eK,eI,eX,eR,eB,eE,eS,eD,eV,eA⟩,el⟩ ld GL GM)from by
    have hgl:∀k,GL k->k < w0.heap.size:=fun k hk=>by have:=hcx.gl k hk;omega
    have cx':CxN w' R GL G:=⟨NB.lt q,fun k hk=>Nat.lt_of_lt_of_le (hgl k hk) k2.size,z4i m⟩
    have z:=z43 R { n with x:=[],snd:=true,ph:=2,c:=0 } ld rw' GL G b w' q (hla.keep (k0.rr k2) (fun k hk e=>hRL (e ▸ hk))) hRL (fun k hk hg=>by
     have h1:=hgl k hk
     have h2:=g k hg
     omega) m (fun hg=>by
     have h2:=g R hg
     omega) rfl hh hfr (by have:=hfr.raw_len;show 0 < _;omega) ho hb (by simp) (q0.both b0 k2) cx'
    rw[<- hr]at z
    exact z.mono (fun e w2 r=>RT.from2 (GM:=GM) k2 g r)))
  rw[<- hr]
  obtain⟨L,rfl⟩:=hla.ptr
  have HW0:=zH hw0
  have X0:=zH x0
  have K0:=zH k0
  have hs0:=s0
  clear h hl1 hl0 hRL hp ho hB hla hfr hh hr hw0 q0 k0 x0 b0 st hws s0 hcx hb
  go_enter Tryz.func115,Tryz.ntmps115
  go_wp2_with fail
  rw[<- HW0.out]
  refine HBR.out.mono ?_
  rintro e w1 ⟨rfl,rw1,G1,q1,m1,g1,k1⟩
  have HT1:=zH (HTS.out w1 rw1 G1 k1 q1 m1 g1)
  clear q1 m1 g1 k1 HTS HBR
  go_wp2_with fail
  refine HT1.out.mono ?_
  intro e w2 q
  have X2:=zH (X0.out.keep q.kp (fun hg=>by
   rcases hg with h | h
   ·omega
   ·have:=CX.out.gm _ h;omega))
  obtain⟨a2,cp2,rfl,q⟩:=q.is
  have Z:=zH q
  clear q
  simp only[evV,z1V]
  go_wp2_with (refine wpR (X2.out) ?_)
  have kq:=Kp.row w2 (w.heap.size) (z0b (⟨ek,ee,⟨eK,eI,eX,eR,eB,eE,eS,eD,eV,eA⟩,el⟩:Sta) (.slice a2 el.length cp2))
  exact zI (Blk.row (X2.out) (z0b (⟨ek,ee,⟨eK,eI,eX,eR,eB,eE,eS,eD,eV,eA⟩,el⟩:Sta) (.slice a2 el.length cp2))) (RT.mk2 K0.out Z.out kq CX.out (Nat.le_refl _) (by omega))
 ·rw[if_neg hh]
  have hh:n.has=false:=by simpa using hh
  have hn:=hl0 hh
  subst hn
  by_cases hb0:b=0
  ·subst hb0
   rw[if_pos rfl]
   obtain⟨w0,hw0,q0,k0,s0,x0,b0⟩:=st false
   have HH:=zH (z5O R { n with snd:=false } n.c (.pointer none) (.pointer none) GL GM w0 q0 ho b0 (by show _=if n.has then _ else _;rw[hh];rfl) (hcx.up k0.size))
   have HW0:=zH hw0
   have X0:=zH x0
   have K0:=zH k0
   have hs0:=s0
   clear h hl1 hl0 hRL hp ho hB hh hw0 q0 k0 x0 b0 st hws s0 hcx hb
   go_enter Tryz.func115,Tryz.ntmps115
   go_wp2_with fail
   rw[<- HW0.out]
   refine HH.out.mono ?_
   intro e w2 q
   have X2:=zH (X0.out.keep q.kp (fun hg=>by
    rcases hg with h | h
    ·omega
    ·have:=CX.out.gm _ h;omega))
   obtain⟨a2,cp2,rfl,q⟩:=q.is
   have Z:=zH q
   clear q
   go_wp2_with (refine wpR (X2.out) ?_)
   have kq:=Kp.row w2 (w.heap.size) (z0b zM (.slice a2 0 cp2))
   exact zI (Blk.row (X2.out) (z0b zM (.slice a2 0 cp2))) (RT.mk2 K0.out Z.out kq CX.out (Nat.le_refl _) (by omega))
  ·have db:((b:Int)==0)=false:=by rw[beq_eq_false_iff_ne];omega
   rw[if_neg hb0]
   have HF:=zH (fun w' q k=>NT.rt (GL:=GL) (GM:=GM) (ev:=z02) (ld0 := .pointer none) (e := .returned z1d) (w':=w') Kp.rfl (⟨rfl,q,k⟩:NT w R { n with snd:=false } n.c (.pointer none) (.pointer none) z1d _ w') rfl (by unfold Nd.count;rw[if_neg (by show ¬n.ph=3;omega)]) (by show _=if n.has then _ else _;rw[hh];rfl) ⟨by show n.ph≠2;omega,by show n.ph≠3;omega⟩)
   have Q1:=zH (hws false)
   clear h hl1 hl0 hRL hp ho hB hh hb0 hcx st hws hb
   go_enter Tryz.func115,Tryz.ntmps115
   go_wp2
   have hb:=Blk.new (w.setCell ⟨R,8,none⟩ (.bool false)) (z0b zM (.slice none 0 0)) 40
   have hs:((w.setCell ⟨R,8,none⟩ (.bool false))).heap.size=w.heap.size:=by simp[World.setCell]
   rw[hs]at hb
   obtain⟨_,⟨e0,e1,e2,e3,e4,e5,e6,e7,e8,e9,e10,e11,e12⟩,_⟩:=Blk.h13 hb
   exact bodyPost_ret (v:=z1V zM (.slice none 0 0)) (by simp[results,Tryz.results115,go_sem,z1V,zM,noF]) rfl (HF.out _ (Q1.out.nb (Nb.rfl.al _)) ((Kp.r1 _ _).rn (Nb.rfl.al _)))
theorem zY(R:Nat)(w:World):Calls Tryz.prog 91 #[.pointer (some ⟨R,0,none⟩)] w fun e w'=> e = .returned (.int .u8 1)/\Nb w w':=by
 go_enter Tryz.func91,Tryz.ntmps91
 go_wp2
 go_ret
 exact⟨rfl,Nb.rfl⟩
theorem z3Z(R:Nat)(w:World):Calls Tryz.prog 96 #[.pointer (some ⟨R,0,none⟩)] w fun e w'=> e = .returned (.int .u8 0)/\Nb w w':=by
 go_enter Tryz.func96,Tryz.ntmps96
 go_wp2
 go_ret
 exact⟨rfl,Nb.rfl⟩
theorem z6f(R:Nat)(n:Nd)(c:Nat)(ld rw:Value)(w:World)(h:NB w R n c ld rw):Calls Tryz.prog 95 #[.pointer (some ⟨R,0,none⟩)] w fun e w'=> e = .returned (.int .u8 ((if n.pas then 1 else 0:Nat):Int))/\Nb w w':=by
 obtain⟨c0,c1,c2,c3,c4,c5,c6,c7,c8,c9⟩:=Blk.c10 (h)
 cases hq:n.pas
 all_goals rw[hq]at c9
 all_goals clear h hq
 all_goals go_enter Tryz.func95,Tryz.ntmps95
 all_goals go_wp2
 all_goals go_ret
 all_goals exact⟨rfl,Nb.rfl⟩
theorem z5S(R:Nat)(n:Nd)(ld rw:Value)(GL:Nat->Prop)(w:World)(h:NB w R n n.c ld rw)(hc:n.c=0)(hl1:n.has=true->z1e w ld n.f n.l GL/\Fr n.f n.l)(hl0:n.has=false->ld = .pointer none):Calls Tryz.prog 92 #[.pointer (some ⟨R,0,none⟩)] w fun e w'=> e = .returned (.int .u8 ((if n.has then 0 else 1:Nat):Int))/\Nb w w':=by
 obtain⟨c0,c1,c2,c3,c4,c5,c6,c7,c8,c9⟩:=Blk.c10 (h)
 cases hh:n.has with
 | true =>
   obtain⟨hla,hfr⟩:=hl1 hh
   have hD:=z2O R n n.c ld rw GL w h hla (by have:=hfr.len.1;omega) (by have:=hfr.len.1;have:=hfr.raw_len.2;omega)
   rw[hc,(hfr.bits 0 (by omega)).1,if_pos (by have:=hfr.raw_len;omega),hfr.sof]at hD
   have HD:=zH hD
   obtain⟨L,hL⟩:∃L,ld = .pointer (some ⟨L,0,none⟩):=by
    obtain⟨L,_,_,_,_,h1,_⟩:=hla
    exact⟨L,h1⟩
   subst hL
   clear h hl1 hl0 hla hfr hD hh hc
   go_enter Tryz.func92,Tryz.ntmps92
   go_wp2_with fail
   refine HD.out.mono ?_
   rintro e w1 ⟨rfl,n1⟩
   go_wp2
   go_ret
   exact⟨rfl,n1⟩
 | false =>
   have hn:=hl0 hh
   subst hn
   clear h hl1 hl0 hh hc
   go_enter Tryz.func92,Tryz.ntmps92
   go_wp2
   go_ret
   exact⟨rfl,Nb.rfl⟩
theorem z4H(R:Nat)(n:Nd)(c:Nat)(ld rw:Value)(GM:Nat->Prop)(w:World)(h:NB w R n c ld rw)(hm:z0l w rw n.kn n.x GM)(hB:z0i w):Calls Tryz.prog 94 #[.pointer (some ⟨R,0,none⟩)] w fun e w'=> e = .returned (.int .u8 ((if n.sta.k=1 then 0 else 1:Nat):Int))/\Nb w w':=by
 obtain⟨c0,c1,c2,c3,c4,c5,c6,c7,c8,c9⟩:=Blk.c10 (h)
 have hs:=z9v rw n.kn n.x GM w hm hB
 have e1:zW (scS n.kn n.x)=n.sta:=rfl
 rw[e1]at hs
 obtain⟨s,hsq⟩:∃s,n.sta=s:=⟨_,rfl⟩
 rw[hsq]at hs ⊢
 have HS:=zH hs
 clear h hm hB hs e1 hsq
 obtain⟨sk,se,⟨K,I,X,Rr,B,E,S,Dd,V,A⟩,sl⟩:=s
 simp only[z1V,zma]at HS
 by_cases hk:sk=1
 ·subst hk
  rw[if_pos rfl]
  go_enter Tryz.func94,Tryz.ntmps94
  go_wp2_with fail
  refine HS.out.mono ?_
  rintro e w1 ⟨⟨a,cp,rfl,_⟩,n1⟩
  go_wp2
  go_ret
  exact⟨rfl,n1.al _⟩
 ·have dk:((sk:Int)==1)=false:=by rw[beq_eq_false_iff_ne];omega
  rw[if_neg hk]
  clear hk
  go_enter Tryz.func94,Tryz.ntmps94
  go_wp2_with fail
  refine HS.out.mono ?_
  rintro e w1 ⟨⟨a,cp,rfl,_⟩,n1⟩
  go_wp2
  go_ret
  exact⟨rfl,n1.al _⟩
def tkV:Value := .agg #[Value.func (Fn.func 114) #[] #[],Value.func (Fn.func 115) #[] #[],Value.func (Fn.func 116) #[] #[],Value.func (Fn.func 117) #[] #[],Value.func (Fn.func 118) #[] #[],Value.func (Fn.func 119) #[] #[],Value.func (Fn.func 119) #[] #[],Value.func (Fn.func 120) #[] #[],Value.func (Fn.func 121) #[] #[],Value.func (Fn.func 122) #[] #[],Value.func (Fn.func 123) #[] #[],Value.func (Fn.func 124) #[] #[]]
def drV:Value := .agg #[Value.func (Fn.func 91) #[] #[],Value.func (Fn.func 92) #[] #[],Value.func (Fn.func 93) #[] #[],Value.func (Fn.func 94) #[] #[],Value.func (Fn.func 91) #[] #[],Value.func (Fn.func 95) #[] #[],Value.func (Fn.func 96) #[] #[],Value.func (Fn.func 91) #[] #[],Value.func (Fn.func 91) #[] #[],Value.func (Fn.func 91) #[] #[],Value.func (Fn.func 91) #[] #[],Value.func (Fn.func 91) #[] #[]]
theorem zcn(w:World):Calls Tryz.prog 97 #[] w fun e w'=>e = .returned tkV/\Nb w w':=by
 unfold tkV
 go_enter Tryz.func97,Tryz.ntmps97
 go_wp2
 exact bodyPost_ret (v := .agg #[Value.func (Fn.func 114) #[] #[],Value.func (Fn.func 115) #[] #[],Value.func (Fn.func 116) #[] #[],Value.func (Fn.func 117) #[] #[],Value.func (Fn.func 118) #[] #[],Value.func (Fn.func 119) #[] #[],Value.func (Fn.func 119) #[] #[],Value.func (Fn.func 120) #[] #[],Value.func (Fn.func 121) #[] #[],Value.func (Fn.func 122) #[] #[],Value.func (Fn.func 123) #[] #[],Value.func (Fn.func 124) #[] #[]]) (by simp[results,Tryz.results97,go_sem]) rfl ⟨rfl,Nb.rfl.al _⟩
theorem zao(w:World):Calls Tryz.prog 65 #[] w fun e w'=>e = .returned drV/\Nb w w':=by
 unfold drV
 go_enter Tryz.func65,Tryz.ntmps65
 go_wp2
 exact bodyPost_ret (v := .agg #[Value.func (Fn.func 91) #[] #[],Value.func (Fn.func 92) #[] #[],Value.func (Fn.func 93) #[] #[],Value.func (Fn.func 94) #[] #[],Value.func (Fn.func 91) #[] #[],Value.func (Fn.func 95) #[] #[],Value.func (Fn.func 96) #[] #[],Value.func (Fn.func 91) #[] #[],Value.func (Fn.func 91) #[] #[],Value.func (Fn.func 91) #[] #[],Value.func (Fn.func 91) #[] #[],Value.func (Fn.func 91) #[] #[]]) (by simp[results,Tryz.results65,go_sem]) rfl ⟨rfl,Nb.rfl.al _⟩
theorem z0V (T:Nat) (k:Int) (hix:∀w,(Instr.index 162 tkV (.int .i64 k)).run Tryz.prog w = .ok (Value.func (Fn.func T) #[] #[]) w) (hcf:∀args w,(callFunc T args).run Tryz.prog w = .ok (.enter T args) w) (R:Nat) (n m:Nd) (ev:Ev) (c:Nat) (ld rw ld0:Value) (GL GM:Nat->Prop) (b:Nat) (w:World) (h:NB w R n c ld rw) (hp:((n.ph:Nat):Int)=k) (hb:b<=1) (hcx:CxN w R GL GM)
    (hF:∀w',Nb w w'->Calls Tryz.prog T #[.pointer (some ⟨R,0,none⟩),.int .u8 (b:Nat)] w' (RT w' R m ev ld0 GL GM)) :
    Calls Tryz.prog 67 #[.pointer (some ⟨R,0,none⟩),.int .u8 (b:Nat)] w fun e w'=>∃u,e = .returned (.tuple #[u,.int .i64 0])/\RT w R m ev ld0 GL GM (.returned u) w':=by
 obtain⟨w0,HW0,N0,S0,X0⟩:=ev0 w
 have CX:=zH hcx
 have hRw:=NB.lt h
 have H:=zH (h.nb N0.out)
 have hR0:R < w0.heap.size:=NB.lt H.out
 have HF:=zH (fun w' (k:Nb w0 w')=>(hF w' (N0.out.tr k)).mono (fun e w2 r=>RT.from k r))
 have HT:=zH zcn
 have d1:decide ((1:Int) < (b:Int))=false:=decide_eq_false (by omega)
 have HP:=zH hp
 obtain⟨ek,ee,⟨eK,eI,eX,eR,eB,eE,eS,eD,eV,eA⟩,el⟩:=ev
 clear h hF hb hp hcx
 go_enter Tryz.func67,Tryz.ntmps67
 go_wp2_with fail
 rw[<- HW0.out]
 have c1:w0.cell? ⟨R,1,none⟩=some (.int .i64 (n.ph:Nat)):=Blk.cell H.out 1
 rw[HP.out]at c1
 have NBk:Hid (Nb w0 w0.drew):=zH (Nb.drewN w0 1)
 go_region_with (first
  | (go_at_call 97
     refine(HT.out _).mono ?_
     rintro e w1 ⟨rfl,n1⟩
     have NBk:=zH (NBk.out.tr n1)
     have c1:w1.cell? ⟨R,1,none⟩=some (.int .i64 (n.ph:Nat)):=Blk.cell (H.out.nb NBk.out) 1
     rw[HP.out]at c1
     clear n1)
  | (refine(HF.out _ NBk.out).mono ?_
     intro e w2 q
     have X2:=zH (X0.out.keep q.kp (fun hg=>by
      rcases hg with h | h
      ·omega
      ·have:=CX.out.gm _ h;omega))
     obtain⟨a2,cp2,rfl,q⟩:=q.is
     have Z:=zH q
     simp only[evV,z1V]
     obtain⟨⟨y0,y1,y2,y3,y4,y5,y6,y7,y8,y9,y10,y11,y12⟩,⟨x0,x1,x2,x3,x4,x5,x6,x7,x8,x9,x10,x11,x12⟩,hlb⟩:=Blk.h13 (X2.out)
     clear q))
 all_goals
  have hb:=zj7 (⟨ek,ee,⟨eK,eI,eX,eR,eB,eE,eS,eD,eV,eA⟩,el⟩:Sta) (.slice a2 el.length cp2) (X2.out)
  have kq:=zkS w2 (w.heap.size) (z0b (⟨ek,ee,⟨eK,eI,eX,eR,eB,eE,eS,eD,eV,eA⟩,el⟩:Sta) (.slice a2 el.length cp2))
  go_wp2
  change bodyPost _ _ _ _ _ (p13 w2 (w.heap.size) (z0b (⟨ek,ee,⟨eK,eI,eX,eR,eB,eE,eS,eD,eV,eA⟩,el⟩:Sta) (.slice a2 el.length cp2)))
  generalize p13 w2 (w.heap.size) (z0b (⟨ek,ee,⟨eK,eI,eX,eR,eB,eE,eS,eD,eV,eA⟩,el⟩:Sta) (.slice a2 el.length cp2))=WW at hb kq ⊢
  obtain⟨_,⟨e0,e1,e2,e3,e4,e5,e6,e7,e8,e9,e10,e11,e12⟩,_⟩:=Blk.h13 hb
  exact bodyPost_ret (v := .tuple #[z1V (⟨ek,ee,⟨eK,eI,eX,eR,eB,eE,eS,eD,eV,eA⟩,el⟩:Sta) (.slice a2 el.length cp2),.int .i64 0]) (by simp[results,Tryz.results67,go_sem,z1V,zM,noF,e0,e1,e2,e3,e4,e5,e6,e7,e8,e9,e10,e11,e12]) rfl ⟨_,rfl,RT.mk N0.out Z.out kq CX.out (Nat.le_refl _) (by have:=S0.out;omega)⟩
theorem z4G (T:Nat) (k:Int) (hix:∀w,(Instr.index 128 drV (.int .i64 k)).run Tryz.prog w = .ok (Value.func (Fn.func T) #[] #[]) w) (hcf:∀args w,(callFunc T args).run Tryz.prog w = .ok (.enter T args) w) (R:Nat) (n:Nd) (c y:Nat) (ld rw:Value) (w:World) (h:NB w R n c ld rw) (hp:((n.ph:Nat):Int)=k)
    (hF:∀w',Nb w w'->Calls Tryz.prog T #[.pointer (some ⟨R,0,none⟩)] w' fun e w''=>e = .returned (.int .u8 (y:Nat))/\Nb w' w'') :
    Calls Tryz.prog 33 #[.pointer (some ⟨R,0,none⟩)] w fun e w'=>e = .returned (.int .u8 (y:Nat))/\Nb w w':=by
 have hRw:=NB.lt h
 have H:=zH h
 have HF:=zH hF
 have HT:=zH zao
 have HP:=zH hp
 clear h hF hp
 go_enter Tryz.func33,Tryz.ntmps33
 go_wp2_with fail
 have c1:w.cell? ⟨R,1,none⟩=some (.int .i64 (n.ph:Nat)):=Blk.cell H.out 1
 rw[HP.out]at c1
 have NBk:Hid (Nb w w.drew):=zH (Nb.drewN w 1)
 go_region_with (first
  | (go_at_call 65
     refine(HT.out _).mono ?_
     rintro e w1 ⟨rfl,n1⟩
     have NBk:=zH (NBk.out.tr n1)
     have c1:w1.cell? ⟨R,1,none⟩=some (.int .i64 (n.ph:Nat)):=Blk.cell (H.out.nb NBk.out) 1
     rw[HP.out]at c1
     clear n1)
  | (refine(HF.out _ NBk.out).mono ?_
     rintro e w2 ⟨rfl,n2⟩
     have NBk:=zH (NBk.out.tr n2)
     clear n2))
 all_goals
  go_wp2
  go_ret
  exact⟨rfl,NBk.out⟩
end Go.Proofs.YtplbmlpdefpplaaGreatDoor
