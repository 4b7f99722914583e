/- A status laid into a block's cells, one by one, and more. Conditions: as each says. -/
import Derived.Test.YtplbmlpdefpplaaGreatDoorGz
import Derived.Test.YtplbmlpdefpplaaGreatDoorGu
set_option maxHeartbeats 3200000
set_option maxRecDepth 100000
namespace Go.Proofs.YtplbmlpdefpplaaGreatDoor
set_option linter.unusedVariables false
set_option linter.unusedSimpArgs false
open Go.RowKit
variable {e:Ending} {ev:Ev} {f:Hd} {l x:List Nat} {R blk c cap:Nat} {F G GL GM GM0:Nat->Prop} {m n:Nd} {a:Option Addr} {t:TypeId} {ld rw u0 u1 u2 u3 u4 u5 u6 u7 u8 u9 v:Value} {WW b w w' w1:World}
def z0b(s:Sta)(v:Value):Array Value:=#[.int .i64 s.k,.int .i64 s.e,.int .i64 s.f.K,.int .u32 s.f.I,.bool s.f.X,.bool s.f.R,.bool s.f.B,.bool s.f.E,.bool s.f.S,.int .u8 s.f.D,.int .u8 s.f.V,.int .u32 s.f.A,v]
theorem Blk.h13 {u10 u11 u12:Value} (h:Blk w R #[u0,u1,u2,u3,u4,u5,u6,u7,u8,u9,u10,u11,u12] t) :
    (w.frozen? ⟨R,0,none⟩=false/\w.frozen? ⟨R,1,none⟩=false/\w.frozen? ⟨R,2,none⟩=false/\w.frozen? ⟨R,3,none⟩=false/\w.frozen? ⟨R,4,none⟩=false/\w.frozen? ⟨R,5,none⟩=false/\w.frozen? ⟨R,6,none⟩=false/\w.frozen? ⟨R,7,none⟩=false/\w.frozen? ⟨R,8,none⟩=false/\w.frozen? ⟨R,9,none⟩=false/\w.frozen? ⟨R,10,none⟩=false/\w.frozen? ⟨R,11,none⟩=false/\w.frozen? ⟨R,12,none⟩=false) /\
    (w.cell? ⟨R,0,none⟩=some u0/\w.cell? ⟨R,1,none⟩=some u1/\w.cell? ⟨R,2,none⟩=some u2/\w.cell? ⟨R,3,none⟩=some u3/\w.cell? ⟨R,4,none⟩=some u4/\w.cell? ⟨R,5,none⟩=some u5/\w.cell? ⟨R,6,none⟩=some u6/\w.cell? ⟨R,7,none⟩=some u7/\w.cell? ⟨R,8,none⟩=some u8/\w.cell? ⟨R,9,none⟩=some u9/\w.cell? ⟨R,10,none⟩=some u10/\w.cell? ⟨R,11,none⟩=some u11/\w.cell? ⟨R,12,none⟩=some u12)/\R < w.heap.size :=
 ⟨⟨h.frozen 0,h.frozen 1,h.frozen 2,h.frozen 3,h.frozen 4,h.frozen 5,h.frozen 6,h.frozen 7,h.frozen 8,h.frozen 9,h.frozen 10,h.frozen 11,h.frozen 12⟩,
  ⟨h.cell 0,h.cell 1,h.cell 2,h.cell 3,h.cell 4,h.cell 5,h.cell 6,h.cell 7,h.cell 8,h.cell 9,h.cell 10,h.cell 11,h.cell 12⟩,h.lt⟩
def p13(w:World)(b:Nat)(c:Array Value):World :=
 ((((((((((((w.setCell ⟨b,0,none⟩ (c.getD 0 .nilFunc)).setCell ⟨b,1,none⟩ (c.getD 1 .nilFunc)).setCell ⟨b,2,none⟩ (c.getD 2 .nilFunc)).setCell ⟨b,3,none⟩ (c.getD 3 .nilFunc)).setCell ⟨b,4,none⟩ (c.getD 4 .nilFunc)).setCell ⟨b,5,none⟩ (c.getD 5 .nilFunc)).setCell ⟨b,6,none⟩ (c.getD 6 .nilFunc)).setCell ⟨b,7,none⟩ (c.getD 7 .nilFunc)).setCell ⟨b,8,none⟩ (c.getD 8 .nilFunc)).setCell ⟨b,9,none⟩ (c.getD 9 .nilFunc)).setCell ⟨b,10,none⟩ (c.getD 10 .nilFunc)).setCell ⟨b,11,none⟩ (c.getD 11 .nilFunc)).setCell ⟨b,12,none⟩ (c.getD 12 .nilFunc)
theorem zj7{b:Nat}{u10 u11 u12:Value}(s:Sta)(v:Value)(h:Blk w b #[u0,u1,u2,u3,u4,u5,u6,u7,u8,u9,u10,u11,u12] t):Blk (p13 w b (z0b s v)) b (z0b s v) t:=by
 have:=(((((((((((((h.set 0 ((z0b s v).getD 0 .nilFunc)).set 1 ((z0b s v).getD 1 .nilFunc)).set 2 ((z0b s v).getD 2 .nilFunc)).set 3 ((z0b s v).getD 3 .nilFunc)).set 4 ((z0b s v).getD 4 .nilFunc)).set 5 ((z0b s v).getD 5 .nilFunc)).set 6 ((z0b s v).getD 6 .nilFunc)).set 7 ((z0b s v).getD 7 .nilFunc)).set 8 ((z0b s v).getD 8 .nilFunc)).set 9 ((z0b s v).getD 9 .nilFunc)).set 10 ((z0b s v).getD 10 .nilFunc)).set 11 ((z0b s v).getD 11 .nilFunc)).set 12 ((z0b s v).getD 12 .nilFunc))
 simpa [p13,z0b]using this
theorem zkS(w:World)(b:Nat)(c:Array Value):Kp (fun x=>x=b) w (p13 w b c):=by
 have st:∀(w':World) (o:Nat) (v:Value),Kp (fun x=>x=b) w w'->Kp (fun x=>x=b) w (w'.setCell ⟨b,o,none⟩ v):=fun w' o v h=>h.tr (Kp.set (F:=fun x=>x=b) (p:=⟨b,o,none⟩) rfl) (fun _ h => .inl h)
 unfold p13
 exact st _ _ _ (st _ _ _ (st _ _ _ (st _ _ _ (st _ _ _ (st _ _ _ (st _ _ _ (st _ _ _ (st _ _ _ (st _ _ _ (st _ _ _ (st _ _ _ (st _ _ _ Kp.rfl))))))))))))
theorem wpR {P:Program} {ops:Array Oper} {rest:List Oper} {o:Oper} {a:Act} {Q:Exit->Act->World->Prop} {ty:TypeId} {x y:Operand} {g:Nat} {cells old:Array Value} (hb:Blk w g old t)
    (h:wpList P ops Q rest (a.put o.dst undef) (w.setRow g cells)) (hgd:o.guard=none:=by rfl) (ho:o.op = .store ty x y:=by rfl) (hx:a.eval x = .pointer (some ⟨g,0,none⟩):=by rfl) (hy:a.eval y = .agg cells:=by rfl)
    (hi:(P.info? ty).map (·.size)=some cells.size:=by kernel_rfl) (hold:old.size=cells.size:=by rfl) (h1:cells.all (·.oneCell')=true:=by simp[Value.oneCell']):wpList P ops Q (o::rest) a w :=
 wpList_store_row hgd ty x y ho g cells hx hy t old hb hi hold h1 h
theorem zI {F:Func} {Q:Ending->World->Prop} {a:Act} {B k:Nat} {s:Sta} (hb:Blk w B (z0b s v) t) (h:Q (.returned (z1V s v)) w)
    (hF:F.results=#[.cell k 40]:=by rfl) (ha:a.tmps.getD k undef = .pointer (some ⟨B,0,none⟩):=by rfl) (hd:a.defers=[]:=by rfl):bodyPost Tryz.prog F Q .ret a w:=by
 refine bodyPost_ret (v:=z1V s v) ?_ hd h
 have hl:=run_loadVar_mid (P:=Tryz.prog) w B 0 40 (z0b s v).toList _ (fun j u hu=>by rw[Nat.zero_add,hb.cell j,<- hu,Array.getElem?_toList]) Tryz.underlying40 rfl (by kernel_rfl)
 have ha':a.tmps[k]?.getD undef = .pointer (some ⟨B,0,none⟩):=by simpa [Array.getD_eq_getD_getElem?]using ha
 unfold results
 simp[hF,ha',asAddr,Sem.run_bind,hl]
 rfl
theorem ev0(w:World):∃w0,Go.RowKit.Hid (w0=w.alloc (.cells #[.int .i64 0,.int .i64 0,.int .i64 0,.int .u32 0,.bool false,.bool false,.bool false,.bool false,.bool false,.int .u8 0,.int .u8 0,.int .u32 0,.slice none 0 0] 40))/\Go.RowKit.Hid (Nb w w0)/\Go.RowKit.Hid (w0.heap.size=w.heap.size+1)/\Go.RowKit.Hid (Blk w0 w.heap.size #[.int .i64 0,.int .i64 0,.int .i64 0,.int .u32 0,.bool false,.bool false,.bool false,.bool false,.bool false,.int .u8 0,.int .u8 0,.int .u32 0,.slice none 0 0] 40):=⟨_,rfl,Nb.rfl.al _,World.size_alloc _ _,Blk.new _ _ _⟩
theorem Blk.c10(h:Blk w R #[u0,u1,u2,u3,u4,u5,u6,u7,u8,u9] t):w.cell? ⟨R,0,none⟩=some u0/\w.cell? ⟨R,1,none⟩=some u1/\w.cell? ⟨R,2,none⟩=some u2/\w.cell? ⟨R,3,none⟩=some u3/\w.cell? ⟨R,4,none⟩=some u4/\w.cell? ⟨R,5,none⟩=some u5/\w.cell? ⟨R,6,none⟩=some u6/\w.cell? ⟨R,7,none⟩=some u7/\w.cell? ⟨R,8,none⟩=some u8/\w.cell? ⟨R,9,none⟩=some u9 :=
 ⟨h.cell 0,h.cell 1,h.cell 2,h.cell 3,h.cell 4,h.cell 5,h.cell 6,h.cell 7,h.cell 8,h.cell 9⟩
theorem Blk.f10(h:Blk w R #[u0,u1,u2,u3,u4,u5,u6,u7,u8,u9] t):w.frozen? ⟨R,0,none⟩=false/\w.frozen? ⟨R,1,none⟩=false/\w.frozen? ⟨R,2,none⟩=false/\w.frozen? ⟨R,3,none⟩=false/\w.frozen? ⟨R,4,none⟩=false/\w.frozen? ⟨R,5,none⟩=false/\w.frozen? ⟨R,6,none⟩=false/\w.frozen? ⟨R,7,none⟩=false/\w.frozen? ⟨R,8,none⟩=false/\w.frozen? ⟨R,9,none⟩=false :=
 ⟨h.frozen 0,h.frozen 1,h.frozen 2,h.frozen 3,h.frozen 4,h.frozen 5,h.frozen 6,h.frozen 7,h.frozen 8,h.frozen 9⟩
def NB(w:World)(R:Nat)(n:Nd)(c:Nat)(ld rw:Value):Prop :=
 Blk w R #[.bool n.kn,.int .i64 (n.ph:Nat),.int .i64 (c:Nat),.int .i64 n.fa.T,.int .i64 n.fa.R,.bool n.fa.O,ld,rw,.bool n.snd,.bool n.pas] 111
theorem NB.keep{F:Nat->Prop}{w w':World}{R:Nat}{n:Nd}{c:Nat}{ld rw:Value}(h:NB w R n c ld rw)(hk:Kp F w w')(hn:¬F R):NB w' R n c ld rw:=Blk.keep h hk hn
theorem NB.nb{w w':World}{R:Nat}{n:Nd}{c:Nat}{ld rw:Value}(h:NB w R n c ld rw)(hk:Nb w w'):NB w' R n c ld rw:=Blk.nb h hk
theorem NB.lt{w:World}{R:Nat}{n:Nd}{c:Nat}{ld rw:Value}(h:NB w R n c ld rw):R < w.heap.size:=Blk.lt h
def NT(w:World)(R:Nat)(m:Nd)(c:Nat)(ld rw:Value)(u:Value)(e:Ending)(w':World):Prop:=e = .returned u/\NB w' R m c ld rw/\Kp (fun b=>b=R) w w'
def zho:Value := .tuple #[]
def z1d:Value:=evV z02 (.slice none 0 0)
theorem Kp.r1(j:Nat)(v:Value):Kp (fun b=>b=R) w (w.setCell ⟨R,j,none⟩ v):=Kp.set (F:=fun b=>b=R) (p:=⟨R,j,none⟩) (Eq.refl R)
theorem Kp.rr{a c:World}(h:Kp F a b)(k:Kp F b c):Kp F a c:=h.tr k (fun _ h => .inl h)
theorem Kp.nr{a c:World}(h:Nb a b)(k:Kp F b c):Kp F a c:=(Kp.ofNb (F:=F) h).tr k (fun _ h => .inl h)
theorem Kp.rn{a c:World}(h:Kp F a b)(k:Nb b c):Kp F a c:=h.tr (Kp.ofNb (F:=F) k) (fun _ h => .inl h)
theorem zkT{s:Fa}(h:z2D s=true){e:Int}(he:zfN e=true):zhw s e=z14 s e/\nxE s e=0:=by
 unfold zhw nxE
 rw[h,he]
 exact⟨rfl,rfl⟩
theorem NT.mk{wd:World}{u:Value}(k:Kp (fun b=>b=R) w wd)(q:NB wd R m c ld rw)(kq:Kp (fun x=>x=blk) wd WW)(hR:R < w.heap.size)(hb:w.heap.size<=blk):NT w R m c ld rw u (.returned u) WW :=
 ⟨rfl,q.keep kq (by omega),k.tr kq (fun _ h => .inr (h ▸ hb))⟩
theorem z0Y(R:Nat)(n:Nd)(c:Nat)(ld rw:Value)(p:Nat)(w:World)(h:NB w R n c ld rw):Calls Tryz.prog 144 #[.pointer (some ⟨R,0,none⟩),.int .i64 (p:Nat)] w (NT w R (n.to p) 0 ld (.pointer none) zho):=by
 obtain⟨c0,c1,c2,c3,c4,c5,c6,c7,c8,c9⟩:=Blk.c10 (h)
 obtain⟨f0,f1,f2,f3,f4,f5,f6,f7,f8,f9⟩:=Blk.f10 (h)
 have H:=zH h
 clear h
 go_enter Tryz.func144,Tryz.ntmps144
 go_wp2
 go_end0
 refine⟨rfl,?_,?_⟩
 ·have q:=((Blk.set H.out 1 (.int .i64 (p:Nat))).set 2 (.int .i64 0)).set 7 (.pointer none)
  exact q
 ·exact((Kp.r1 _ _).rr (Kp.r1 _ _)).rr (Kp.r1 _ _)
theorem z32 (R:Nat) (n:Nd) (c:Nat) (ld:Value) (k p:Nat) (w:World) (h:NB w R n c ld (.pointer none)) (hn:n.c=c) (hc:c < 200):Calls Tryz.prog 145 #[.pointer (some ⟨R,0,none⟩),.int .i64 (k:Nat),.int .i64 (p:Nat)] w
    (NT w R (if c+1=k then n.to p else { n with c:=c+1 }) (if c+1=k then n.to p else { n with c:=c+1 }).c ld (.pointer none) zho):=by
 obtain⟨c0,c1,c2,c3,c4,c5,c6,c7,c8,c9⟩:=Blk.c10 (h)
 obtain⟨f0,f1,f2,f3,f4,f5,f6,f7,f8,f9⟩:=Blk.f10 (h)
 have q1:NB (w.setCell ⟨R,2,none⟩ (.int .i64 ((c:Nat)+1:Int))) R { n with c:=c+1 } (c+1) ld (.pointer none):=Blk.set h 2 (.int .i64 ((c+1:Nat):Int))
 have k1:Kp (fun b=>b=R) w (w.setCell ⟨R,2,none⟩ (.int .i64 ((c:Nat)+1:Int))):=Kp.set rfl
 have Q1:=zH q1
 have K1:=zH k1
 clear h q1 k1 hn
 by_cases hk:c+1=k
 ·have dk:((c:Int)+1==(k:Int))=true:=by rw[beq_iff_eq];omega
  rw[if_pos hk]
  have HB:=zH (z0Y R { n with c:=c+1 } (c+1) ld (.pointer none) p _ Q1.out)
  clear hk
  go_enter Tryz.func145,Tryz.ntmps145
  go_wp2_with fail
  refine HB.out.mono ?_
  rintro e w1 ⟨rfl,q2,k2⟩
  have Q2:=zH q2
  have K2:=zH k2
  clear q2 k2
  go_wp2
  go_end0
  exact⟨rfl,Q2.out,K1.out.tr K2.out (fun _ h => .inl h)⟩
 ·have dk:((c:Int)+1==(k:Int))=false:=by rw[beq_eq_false_iff_ne];omega
  rw[if_neg hk]
  clear hk
  go_enter Tryz.func145,Tryz.ntmps145
  go_wp2
  go_end0
  exact⟨rfl,Q1.out,K1.out⟩
theorem z93 (R:Nat) (n:Nd) (c:Nat) (ld:Value) (b k p:Nat) (w:World) (h:NB w R n c ld (.pointer none)) (hn:n.c=c) (hc:c < 200):Calls Tryz.prog 136 #[.pointer (some ⟨R,0,none⟩),.int .u8 (b:Nat),.int .i64 (k:Nat),.int .i64 (p:Nat)] w
    (NT w R (n.cnt b k p) (n.cnt b k p).c ld (.pointer none) z1d):=by
 obtain⟨w0,HW0,N0,S0,X0⟩:=ev0 w
 obtain⟨c0,c1,c2,c3,c4,c5,c6,c7,c8,c9⟩:=Blk.c10 (h)
 obtain⟨f0,f1,f2,f3,f4,f5,f6,f7,f8,f9⟩:=Blk.f10 (h)
 have HS:=zH (z32 R n c ld k p w0 (h.nb N0.out) hn hc)
 have q1:NB (w0.setCell ⟨R,2,none⟩ (.int .i64 0)) R { n with c:=0 } 0 ld (.pointer none):=Blk.set (h.nb N0.out) 2 (.int .i64 0)
 have k1:Kp (fun b=>b=R) w (w0.setCell ⟨R,2,none⟩ (.int .i64 0)):=Kp.nr N0.out (Kp.r1 _ _)
 have hR:=NB.lt h
 have Q1:=zH q1
 have K1:=zH k1
 have HN:=zH hn
 have h9:=zH h
 unfold Nd.cnt
 clear h q1 k1 hn hc
 by_cases hb:b=0
 ·subst hb
  rw[if_pos rfl]
  go_enter Tryz.func136,Tryz.ntmps136
  go_wp2
  have q2:NB (w.setCell ⟨R,2,none⟩ (.int .i64 0)) R { n with c:=0 } 0 ld (.pointer none):=Blk.set h9.out 2 (.int .i64 0)
  have hb:=Blk.new (w.setCell ⟨R,2,none⟩ (.int .i64 0)) (z0b zM (.slice none 0 0)) 40
  have hs:((w.setCell ⟨R,2,none⟩ (.int .i64 0))).heap.size=w.heap.size:=by simp[World.setCell]
  rw[hs]at hb
  obtain⟨_,⟨e0,e1,e2,e3,e4,e5,e6,e7,e8,e9,e10,e11,e12⟩,_⟩:=Blk.h13 hb
  exact bodyPost_ret (v:=z1V zM (.slice none 0 0)) (by simp[results,Tryz.results136,go_sem,z1V,zM,noF]) rfl (⟨rfl,q2.nb (Nb.rfl.al _),(Kp.r1 _ _).rn (Nb.rfl.al _)⟩)
 ·have db:((b:Int)==0)=false:=by rw[beq_eq_false_iff_ne];omega
  rw[if_neg hb,HN.out]
  obtain⟨m,hm⟩:∃m,(if c+1=k then n.to p else { n with c:=c+1 })=m:=⟨_,rfl⟩
  rw[hm]at HS ⊢
  clear hb HN hm
  go_enter Tryz.func136,Tryz.ntmps136
  go_wp2_with fail
  rw[<- HW0.out]
  refine HS.out.mono ?_
  rintro e w1 ⟨rfl,q2,k2⟩
  have Q2:=zH q2
  have X1:=zH (X0.out.keep k2 (by omega))
  have K2:=zH ((Kp.ofNb (F:=fun b=>b=R) N0.out).tr k2 (fun _ h => .inl h))
  clear q2 k2
  go_wp2_with (refine wpR (X1.out) ?_)
  have kq:=Kp.row w1 (w.heap.size) (z0b zM (.slice none 0 0))
  exact zI (Blk.row (X1.out) (z0b zM (.slice none 0 0))) (NT.mk K2.out Q2.out kq hR (Nat.le_refl _))
theorem z8z(R:Nat)(n:Nd)(c:Nat)(ld rw:Value)(w:World)(h:NB w R n c ld rw)(ho:z2D n.fa=true):Calls Tryz.prog 146 #[.pointer (some ⟨R,0,none⟩)] w fun e w'=>e = .returned (.int .i64 (z2L n.fa:Nat))/\Nb w w':=by
 obtain⟨c0,c1,c2,c3,c4,c5,c6,c7,c8,c9⟩:=Blk.c10 (h)
 have hm:=fun w'=>z9r n.fa w'
 unfold z68 at hm
 rw[ho,if_pos rfl,if_pos rfl]at hm
 simp only[Fa.cs]at hm
 have HM:=zH hm
 clear h hm ho
 go_enter Tryz.func146,Tryz.ntmps146
 go_wp2_with fail
 refine(HM.out _).mono ?_
 rintro e w1 ⟨rfl,n1⟩
 go_wp2
 go_ret
 exact⟨rfl,n1⟩
theorem z22(R:Nat)(n:Nd)(c:Nat)(ld rw:Value)(ev:Int)(w:World)(h:NB w R n c ld rw)(ho:z2D n.fa=true)(he:zfN ev=true):Calls Tryz.prog 147 #[.pointer (some ⟨R,0,none⟩),.int .i64 ev] w (NT w R { n with fa:=z14 n.fa ev } c ld rw zho):=by
 obtain⟨c0,c1,c2,c3,c4,c5,c6,c7,c8,c9⟩:=Blk.c10 (h)
 have hm:=fun w'=>zam n.fa ev w'
 rw[(zkT ho he).1,(zkT ho he).2]at hm
 have H:=zH h
 obtain⟨d,hd⟩:∃d,z14 n.fa ev=d:=⟨_,rfl⟩
 rw[hd]at hm ⊢
 simp only[Fa.cs]at hm
 have HM:=zH hm
 clear h hm ho he hd
 go_enter Tryz.func147,Tryz.ntmps147
 go_wp2_with fail
 refine(HM.out _).mono ?_
 rintro e w1 ⟨rfl,n1⟩
 clear c0 c1 c2 c3 c4 c5 c6 c7 c8 c9
 obtain⟨c0,c1,c2,c3,c4,c5,c6,c7,c8,c9⟩:=Blk.c10 (H.out.nb n1)
 obtain⟨f0,f1,f2,f3,f4,f5,f6,f7,f8,f9⟩:=Blk.f10 (H.out.nb n1)
 have H1:=zH (H.out.nb n1)
 have N1:=zH n1
 clear n1
 go_wp2
 go_end0
 refine⟨rfl,?_,?_⟩
 ·have q:=((Blk.set H1.out 3 (.int .i64 d.T)).set 4 (.int .i64 d.R)).set 5 (.bool d.O)
  exact q
 ·exact((Kp.nr N1.out (Kp.r1 _ _)).rr (Kp.r1 _ _)).rr (Kp.r1 _ _)
theorem zkb(s:Fa):(s.O=true->z2L s=2)/\(s.O=false->z2L s < 2):=by
 constructor
 ·intro h;simp[z2L,h]
 ·intro h
  unfold z2L
  simp only[h,Bool.false_eq_true,if_false]
  split<;>omega
theorem z6B(R:Nat)(n:Nd)(c:Nat)(ld rw:Value)(ev:Int)(er:Nat)(w:World)(h:NB w R n c ld rw)(ho:z2D n.fa=true)(he:zfN ev=true):Calls Tryz.prog 140 #[.pointer (some ⟨R,0,none⟩),.int .i64 ev,.int .i64 (er:Nat)] w (NT w R (n.wrong ev er).1 0 ld (.pointer none) (evV (n.wrong ev er).2 (.slice none 0 0))):=by
 obtain⟨w0,HW0,N0,S0,X0⟩:=ev0 w
 have HC:=zH (z22 R n c ld rw ev w0 (h.nb N0.out) ho he)
 have hR:=NB.lt h
 have ho2:z2D (z14 n.fa ev)=true:=z5a ho ev
 have HM:=zH (fun w' (h':NB w' R { n with fa:=z14 n.fa ev } c ld rw)=>z8z R _ c ld rw w' h' ho2)
 unfold Nd.wrong
 obtain⟨d,hd⟩:∃d,z14 n.fa ev=d:=⟨_,rfl⟩
 simp only[hd]at HC HM ⊢
 obtain⟨hO,hO2⟩:=zkb d
 obtain⟨m,hm⟩:∃m,z2L d=m:=⟨_,rfl⟩
 simp only[hm]at HM hO hO2 ⊢
 obtain⟨o,hoo⟩:∃o,d.O=o:=⟨_,rfl⟩
 rw[hoo]at hO hO2 ⊢
 have dm:(((m:Nat):Int)==1)=((m:Nat)==1):=by
  cases hq:(m==1)
  ·rw[beq_eq_false_iff_ne]at hq ⊢;omega
  ·rw[beq_iff_eq]at hq ⊢;omega
 have d2:(((m:Nat):Int)==2)=o:=by
  cases o
  ·have:=hO2 rfl
   rw[beq_eq_false_iff_ne];omega
  ·have:=hO rfl
   rw[beq_iff_eq];omega
 obtain⟨q,hq⟩:∃q,(m==1)=q:=⟨_,rfl⟩
 rw[hq]at dm ⊢
 have HB:=zH (fun w' p (h':NB w' R { n with fa:=d,pas:=q } c ld rw)=>z0Y R _ c ld rw p w' h')
 clear h ho he ho2 hO hO2 hm hq hd hoo
 simp only[evV,noF]
 cases o
 all_goals simp only[Bool.false_eq_true,if_true,if_false]
 all_goals go_enter Tryz.func140,Tryz.ntmps140
 all_goals go_wp2_with fail
 all_goals rw[<- HW0.out]
 all_goals refine HC.out.mono ?_
 all_goals rintro e w1 ⟨rfl,q1,k1⟩
 all_goals have Q1:=zH q1
 all_goals have K1:=zH k1
 all_goals clear q1 k1
 all_goals go_wp2_with fail
 all_goals refine(HM.out _ Q1.out).mono ?_
 all_goals rintro e w2 ⟨rfl,n2⟩
 all_goals have q2:=Q1.out.nb n2
 all_goals obtain⟨c0,c1,c2,c3,c4,c5,c6,c7,c8,c9⟩:=Blk.c10 (q2)
 all_goals obtain⟨f0,f1,f2,f3,f4,f5,f6,f7,f8,f9⟩:=Blk.f10 (q2)
 all_goals have q3:NB (w2.setCell ⟨R,9,none⟩ (.bool q)) R { n with fa:=d,pas:=q } c ld rw:=Blk.set q2 9 (.bool q)
 all_goals have k3:Kp (fun b=>b=R) w0 (w2.setCell ⟨R,9,none⟩ (.bool q)):=(K1.out.tr (Kp.ofNb (F:=fun b=>b=R) n2) (fun _ h => .inl h)).tr (Kp.set (F:=fun b=>b=R) rfl) (fun _ h => .inl h)
 all_goals have Q3:=zH q3
 all_goals have K3:=zH k3
 all_goals clear q2 n2 q3 k3 K1 Q1
 all_goals go_wp2_with fail
 all_goals refine(HB.out _ _ Q3.out).mono ?_
 all_goals rintro e w4 ⟨rfl,q4,k4⟩
 all_goals have Q4:=zH q4
 all_goals have X4:=zH (X0.out.keep (K3.out.tr k4 (fun _ h => .inl h)) (by omega))
 all_goals have K4:=zH ((Kp.ofNb (F:=fun b=>b=R) N0.out).tr (K3.out.tr k4 (fun _ h => .inl h)) (fun _ h => .inl h))
 all_goals clear q4 k4
 all_goals
  go_wp2_with (refine wpR (X4.out) ?_)
  have kq:=Kp.row w4 (w.heap.size) (z0b (⟨4,er,noF,[]⟩:Sta) (.slice none 0 0))
  exact zI (Blk.row (X4.out) (z0b (⟨4,er,noF,[]⟩:Sta) (.slice none 0 0))) (NT.mk K4.out Q4.out kq hR (Nat.le_refl _))
theorem NB.tab(h:NB w R n c ld rw)(hb:z0i w):R≠1/\R≠0:=by
 have a0:w.cell? ⟨1,0,none⟩=some (.int .i64 0):=hb.1 0 _ rfl
 have b0:w.cell? ⟨0,0,none⟩=some (.int .i64 12):=hb.2 0 (by omega)
 have c0:w.cell? ⟨R,0,none⟩=some (.bool n.kn):=Blk.cell h 0
 constructor
 ·rintro rfl
  rw[c0]at a0
  cases a0
 ·rintro rfl
  rw[c0]at b0
  cases b0
theorem NB.both(h:NB w R n c ld rw)(hb:z0i w)(hk:Kp (fun b=>b=R) w w'):z0i w':=hb.keep hk (fun e=>(h.tab hb).1 e.symm) (fun e=>(h.tab hb).2 e.symm)
def z0W(w:World)(rw:Value)(n:Nd)(G:Nat->Prop):Prop:=if n.ph=2\/n.ph=3 then z0l w rw n.kn n.x G else rw = .pointer none
theorem z0W.keep(h:z0W w rw n G)(hk:Kp F w w')(hn:∀k,G k->¬F k):z0W w' rw n G:=by
 unfold z0W at h ⊢
 split
 ·rename_i hp
  rw[if_pos hp]at h
  exact z03 h hk hn
 ·rename_i hp
  rwa[if_neg hp]at h
def RT(w:World)(R:Nat)(m:Nd)(ev:Ev)(ld:Value)(GL GM:Nat->Prop)(e:Ending)(w':World):Prop :=
 ∃GM' ld' rw' a cap,e = .returned (evV ev (.slice a ev.l.length cap))/\Bs w' a cap ev.l/\(∀b o t,a=some ⟨b,o,t⟩->(ev.k=1/\GL b)\/(ev.k=2/\GM' b)\/(ev.k=2/\w.heap.size<=b)) /\
  NB w' R m m.count ld' rw'/\ld'=(if m.has then ld else .pointer none)/\z0W w' rw' m GM'/\(∀k,GM' k->GM k\/w.heap.size<=k)/\(∀k,GM' k->k < w'.heap.size)/\Kp (fun k=>k=R\/GM k) w w'
structure CxN(w:World)(R:Nat)(GL GM:Nat->Prop):Prop where
 lt:R < w.heap.size
 gl:∀k,GL k->k < w.heap.size
 gm:∀k,GM k->k < w.heap.size
theorem CxN.up(h:CxN w R GL GM)(hs:w.heap.size<=w'.heap.size):CxN w' R GL GM :=
 ⟨Nat.lt_of_lt_of_le h.lt hs,fun k hk=>Nat.lt_of_lt_of_le (h.gl k hk) hs,fun k hk=>Nat.lt_of_lt_of_le (h.gm k hk) hs⟩
theorem CxN.row(h:CxN w R GL GM)(hG:∀k,G k->k < w.heap.size):CxN w R GL G:=⟨h.lt,h.gl,hG⟩
theorem NT.rt{ld0:Value}(hk:Kp (fun k=>k=R\/GM k) w w1)(h:NT w1 R m c ld (.pointer none) (evV ev (.slice none 0 0)) e w')(hl:ev.l=[])(hc:c=m.count)(hd:ld=if m.has then ld0 else .pointer none)(hp:m.ph≠2/\m.ph≠3):RT w R m ev ld0 GL GM e w':=by
 obtain⟨h1,h2,h3⟩:=h
 refine⟨fun _=>False,ld,.pointer none,none,0,by rw[hl];exact h1,by rw[hl];exact Bs.nil _,fun _ _ _ h=>(by cases h),by rw[<- hc];exact h2,hd,?_,fun _ h=>h.elim,fun _ h=>h.elim,hk.tr h3 (fun _ h => .inl (.inl h))⟩
 unfold z0W
 rw[if_neg (by omega)]
theorem RT.mk{w0 wd:World}(hn:Nb w w0)(r:RT w0 R m ev ld GL GM e wd)(kq:Kp (fun x=>x=blk) wd WW)(hx:CxN w R GL GM)(hb1:w.heap.size<=blk)(hb2:blk < w0.heap.size):RT w R m ev ld GL GM e WW:=by
 obtain⟨G,l2,r2,a,c,h1,h2,h3,h4,h5,h6,h7,h8,h9⟩:=r
 have hG:∀k,G k->k≠blk:=fun k hk e=>by
  rcases h7 k hk with h | h
  ·have:=hx.gm k h;omega
  ·omega
 refine⟨G,l2,r2,a,c,h1,h2.keepKp kq (fun b o t e hb => ?_),fun b o t e=>(h3 b o t e).imp id (fun h=>h.imp id (fun h=>⟨h.1,Nat.le_trans hn.size h.2⟩)),h4.keep kq (by have:=hx.lt;omega),h5,h6.keep kq hG,fun k hk=>(h7 k hk).imp id (fun h=>Nat.le_trans hn.size h),fun k hk=>Nat.lt_of_lt_of_le (h8 k hk) kq.size,((Kp.ofNb (F:=fun k=>k=R\/GM k) hn).tr h9 (fun _ h => .inl h)).tr kq (fun k hk => .inr (hk ▸ hb1))⟩
 rcases h3 b o t e with h | h | h
 ·have:=hx.gl b h.2;omega
 ·exact hG b h.2 hb
 ·omega
theorem RT.is(h:RT w R m ev ld GL GM e w'):∃a c,e = .returned (evV ev (.slice a ev.l.length c))/\RT w R m ev ld GL GM (.returned (evV ev (.slice a ev.l.length c))) w':=by
 obtain⟨G,l2,r2,a,c,rfl,h⟩:=h
 exact⟨a,c,rfl,G,l2,r2,a,c,rfl,h⟩
theorem RT.kp(h:RT w R m ev ld GL GM e w'):Kp (fun k=>k=R\/GM k) w w':=by
 obtain⟨G,l2,r2,a,c,_,_,_,_,_,_,_,_,h⟩:=h
 exact h
theorem RT.from(hn:Nb w w1)(h:RT w1 R m ev ld GL GM e w'):RT w R m ev ld GL GM e w':=by
 obtain⟨G,l2,r2,a,c,h1,h2,h3,h4,h5,h6,h7,h8,h9⟩:=h
 exact⟨G,l2,r2,a,c,h1,h2,fun b o t e=>(h3 b o t e).imp id (fun h=>h.imp id (fun h=>⟨h.1,Nat.le_trans hn.size h.2⟩)),h4,h5,h6,fun k hk=>(h7 k hk).imp id (fun h=>Nat.le_trans hn.size h),h8,(Kp.ofNb (F:=fun k=>k=R\/GM k) hn).tr h9 (fun _ h => .inl h)⟩
theorem RT.from2{G1:Nat->Prop}(hk:Kp (fun k=>k=R) w w1)(hG:∀k,G1 k->w.heap.size<=k)(h:RT w1 R m ev ld GL G1 e w'):RT w R m ev ld GL GM e w':=by
 obtain⟨G,l2,r2,a,c,h1,h2,h3,h4,h5,h6,h7,h8,h9⟩:=h
 refine⟨G,l2,r2,a,c,h1,h2,fun b o t e=>(h3 b o t e).imp id (fun h=>h.imp id (fun h=>⟨h.1,Nat.le_trans hk.size h.2⟩)),h4,h5,h6,fun k hk2 => ?_,h8,(hk.mono (F':=fun k=>k=R\/GM k) (fun _ _ h => .inl h)).tr h9 (fun k h => ?_)⟩
 ·rcases h7 k hk2 with h | h
  ·exact .inr (hG k h)
  ·exact .inr (Nat.le_trans hk.size h)
 ·rcases h with h | h
  ·exact .inl (.inl h)
  ·exact .inr (hG k h)
theorem zhk{kn:Bool}(h:z0l w v kn x F):∃R,v = .pointer (some ⟨R,0,none⟩):=by
 obtain⟨R,_,_,_,_,h1,_⟩:=h
 exact⟨R,h1⟩
theorem z41(R:Nat)(n:Nd)(c:Nat)(ld rw:Value)(p:Nat)(w:World)(h:NB w R n c ld rw)(hB:z0i w):Calls Tryz.prog 137 #[.pointer (some ⟨R,0,none⟩),.int .i64 (p:Nat)] w fun e w'=>e = .returned zho/\∃rw' G,NB w' R (n.to p) 0 ld rw'/\z0l w' rw' n.kn [] G/\(∀k,G k->w.heap.size<=k)/\Kp (fun b=>b=R) w w':=by
 have HB:=zH (z0Y R n c ld rw p w h)
 have HT:=zH (fun w' (k:Kp (fun b=>b=R) w w')=>h.both hB k)
 have HR:=zH (NB.lt h)
 clear h hB
 go_enter Tryz.func137,Tryz.ntmps137
 go_wp2_with fail
 refine HB.out.mono ?_
 rintro e w1 ⟨rfl,q1,k1⟩
 have Q1:=zH q1
 have K1:=zH k1
 have HN:=zH (zhQ n.kn w1 (HT.out w1 k1))
 obtain⟨c0,c1,c2,c3,c4,c5,c6,c7,c8,c9⟩:=Blk.c10 (q1)
 clear q1 k1
 go_wp2_with fail
 refine HN.out.mono ?_
 rintro e w2 ⟨⟨v,G,rfl,m2,g2⟩,n2⟩
 obtain⟨MR,rfl⟩:=zhk m2
 have Q2:=zH (Q1.out.nb n2)
 have M2:=zH m2
 have G2:=zH g2
 have K2:=zH (K1.out.tr (Kp.ofNb (F:=fun b=>b=R) n2) (fun _ h => .inl h))
 clear m2 g2 n2
 clear c0 c1 c2 c3 c4 c5 c6 c7 c8 c9
 obtain⟨c0,c1,c2,c3,c4,c5,c6,c7,c8,c9⟩:=Blk.c10 (Q2.out)
 obtain⟨f0,f1,f2,f3,f4,f5,f6,f7,f8,f9⟩:=Blk.f10 (Q2.out)
 go_wp2
 go_end0
 have kk:Kp (fun b=>b=R) w2 (w2.setCell ⟨R,7,none⟩ (.pointer (some ⟨MR,0,none⟩))):=Kp.r1 _ _
 refine⟨rfl,_,G,Blk.set Q2.out 7 (.pointer (some ⟨MR,0,none⟩)),z03 M2.out kk (fun k hk e => ?_),fun k hk=>Nat.le_trans K1.out.size (G2.out k hk),K2.out.tr kk (fun _ h => .inl h)⟩
 have h1:=G2.out k hk
 have h2:=NB.lt Q1.out
 omega
theorem z3U (R:Nat) (n:Nd) (c:Nat) (ld rw:Value) (GM:Nat->Prop) (a:Option Addr) (cap:Nat) (w:World) (h:NB w R n c ld rw) (hm:z0l w rw n.kn n.x GM) (hp:n.ph=3) (ho:z2D n.fa=true) :
    Calls Tryz.prog 143 #[.pointer (some ⟨R,0,none⟩),z1V n.sta (.slice a n.sta.l.length cap)] w fun e w'=>e = .returned (evV (n.heard 0).2 (if n.sta.k=2 then .slice a n.sta.l.length cap else .slice none 0 0))/\NB w' R (n.heard 0).1 (n.heard 0).1.count ld (if n.sta.k < 2 then rw else .pointer none)/\Kp (fun b=>b=R) w w':=by
 have hk4:n.sta.k<=4:=z4Z n.kn n.x
 have HS:=zH (fun w' (k:Nb w w')=>zff rw n.kn n.x GM w' (z03 hm (Kp.ofNb (F:=fun _=>False) k) (fun _ _ h=>h)))
 have H:=zH h
 have HW:=zH (fun er w' (k:Nb w w')=>z6B R n c ld rw 4 er w' (h.nb k) ho (by decide))
 have HC:=zH (fun w' (k:Nb w w')=>z22 R n c ld rw 2 w' (h.nb k) ho (by decide))
 have HG:=zH (fun w' p (k:Nb w w')=>z0Y R n c ld rw p w' (h.nb k))
 have HP:=zH hp
 have hR:=NB.lt h
 unfold Nd.heard
 obtain⟨s,hs⟩:∃s,n.sta=s:=⟨_,rfl⟩
 rw[hs]at hk4 ⊢
 clear hs hm hp ho h
 obtain⟨sk,se,⟨K,I,X,Rr,B,E,S,Dd,V,A⟩,sl⟩:=s
 simp only[z1V]at hk4 ⊢
 obtain⟨w0,hw0⟩:∃w0,w0=(w.alloc (.cells #[.int .i64 sk,.int .i64 se,.int .i64 K,.int .u32 I,.bool X,.bool Rr,.bool B,.bool E,.bool S,.int .u8 Dd,.int .u8 V,.int .u32 A,.slice a sl.length cap] 173)).alloc (.cells #[.int .i64 0,.int .i64 0,.int .i64 0,.int .u32 0,.bool false,.bool false,.bool false,.bool false,.bool false,.int .u8 0,.int .u8 0,.int .u32 0,.slice none 0 0] 40):=⟨_,rfl⟩
 have n0:Nb w w0:=by rw[hw0];exact(Nb.rfl.al _).al _
 have s0:w0.heap.size=w.heap.size+1+1:=by rw[hw0,World.size_alloc,World.size_alloc]
 have Y0:=zH (show Blk w0 w.heap.size #[.int .i64 sk,.int .i64 se,.int .i64 K,.int .u32 I,.bool X,.bool Rr,.bool B,.bool E,.bool S,.int .u8 Dd,.int .u8 V,.int .u32 A,.slice a sl.length cap] 173 by rw[hw0];exact(Blk.new w _ _).nb (Nb.rfl.al _))
 have X0:=zH (show Blk w0 (w.heap.size+1) #[.int .i64 0,.int .i64 0,.int .i64 0,.int .u32 0,.bool false,.bool false,.bool false,.bool false,.bool false,.int .u8 0,.int .u8 0,.int .u32 0,.slice none 0 0] 40 by
  rw[hw0]
  have:=Blk.new (w.alloc (.cells #[.int .i64 sk,.int .i64 se,.int .i64 K,.int .u32 I,.bool X,.bool Rr,.bool B,.bool E,.bool S,.int .u8 Dd,.int .u8 V,.int .u32 A,.slice a sl.length cap] 173)) #[.int .i64 0,.int .i64 0,.int .i64 0,.int .u32 0,.bool false,.bool false,.bool false,.bool false,.bool false,.int .u8 0,.int .u8 0,.int .u32 0,.slice none 0 0] 40
  rwa[World.size_alloc]at this)
 have N0:=zH n0
 have HW0:=zH hw0
 have S0:=zH s0
 clear n0 hw0 s0
 rcases(by omega:sk=2\/sk=3\/sk=4\/sk < 2)with hq | hq | hq | hlt
 ·rw[if_pos hq,if_pos hq,if_neg (by omega)]
  have d2:((sk:Int)==2)=true:=by rw[beq_iff_eq];omega
  clear hk4 hq
  go_enter Tryz.func143,Tryz.ntmps143
  go_wp2_with fail
  rw[<- HW0.out]
  refine(HC.out _ N0.out).mono ?_
  rintro e w1 ⟨rfl,q1,k1⟩
  have K1:=zH k1
  have HG1:=zH (fun p=>z0Y R _ c ld rw p w1 q1)
  clear q1 k1
  go_wp2_with fail
  refine(HG1.out _).mono ?_
  rintro e w2 ⟨rfl,q2,k2⟩
  have Q2:=zH q2
  have kk:=K1.out.tr k2 (fun _ h => .inl h)
  have Y2:=zH (Y0.out.keep kk (by omega))
  have X2:=zH (X0.out.keep kk (by omega))
  have KK:=zH ((Kp.ofNb (F:=fun b=>b=R) N0.out).tr kk (fun _ h => .inl h))
  clear q2 k2 kk
  obtain⟨x0,x1,x2,x3,x4,x5,x6,x7,x8,x9,x10,x11,x12⟩:=(Blk.h13 (Y2.out)).2.1
  go_wp2_with (refine wpR (X2.out) ?_)
  have kq:=Kp.row w2 ((w.heap.size+1)) (z0b (⟨2,0,⟨K,I,X,Rr,B,E,S,Dd,V,A⟩,sl⟩:Sta) (.slice a sl.length cap))
  exact zI (Blk.row (X2.out) (z0b (⟨2,0,⟨K,I,X,Rr,B,E,S,Dd,V,A⟩,sl⟩:Sta) (.slice a sl.length cap))) (⟨rfl,Q2.out.keep kq (by omega),KK.out.tr kq (fun _ h => .inr (by omega))⟩)
 ·rw[if_neg (by omega),if_pos hq,if_neg (by omega),if_neg (by omega)]
  have d2:((sk:Int)==2)=false:=by rw[beq_eq_false_iff_ne];omega
  have d3:((sk:Int)==3)=true:=by rw[beq_iff_eq];omega
  clear hk4 hq
  go_enter Tryz.func143,Tryz.ntmps143
  go_wp2_with fail
  rw[<- HW0.out]
  refine(HW.out _ _ N0.out).mono ?_
  unfold Nd.wrong
  simp only[evV,z1V,noF]
  rintro e w1 ⟨rfl,q1,k1⟩
  have Q1:=zH q1
  have X1:=zH (X0.out.keep k1 (by omega))
  have KK:=zH ((Kp.ofNb (F:=fun b=>b=R) N0.out).tr k1 (fun _ h => .inl h))
  have hcnt:(n.wrong 4 se).1.count=0:=by
   unfold Nd.wrong Nd.count
   show(if(if(z14 n.fa 4).O then 10 else 5)=3 then n.x.length else 0)=0
   cases (z14 n.fa 4).O<;>rfl
  clear q1 k1
  go_wp2_with (refine wpR (X1.out) ?_)
  have kq:=Kp.row w1 ((w.heap.size+1)) (z0b (⟨4,se,noF,[]⟩:Sta) (.slice none 0 0))
  exact zI (Blk.row (X1.out) (z0b (⟨4,se,noF,[]⟩:Sta) (.slice none 0 0))) (⟨rfl,by rw[hcnt];exact Q1.out.keep kq (by omega),KK.out.tr kq (fun _ h => .inr (by omega))⟩)
 ·rw[if_neg (by omega),if_neg (by omega),if_pos hq,if_neg (by omega),if_neg (by omega)]
  have d2:((sk:Int)==2)=false:=by rw[beq_eq_false_iff_ne];omega
  have d3:((sk:Int)==3)=false:=by rw[beq_eq_false_iff_ne];omega
  have d4:((sk:Int)==4)=true:=by rw[beq_iff_eq];omega
  clear hk4 hq
  go_enter Tryz.func143,Tryz.ntmps143
  go_wp2_with fail
  rw[<- HW0.out]
  refine(HG.out _ _ N0.out).mono ?_
  rintro e w1 ⟨rfl,q1,k1⟩
  have Q1:=zH q1
  have X1:=zH (X0.out.keep k1 (by omega))
  have KK:=zH ((Kp.ofNb (F:=fun b=>b=R) N0.out).tr k1 (fun _ h => .inl h))
  clear q1 k1
  go_wp2_with (refine wpR (X1.out) ?_)
  have kq:=Kp.row w1 ((w.heap.size+1)) (z0b zM (.slice none 0 0))
  exact zI (Blk.row (X1.out) (z0b zM (.slice none 0 0))) (⟨rfl,Q1.out.keep kq (by omega),KK.out.tr kq (fun _ h => .inr (by omega))⟩)
 ·rw[if_neg (by omega),if_neg (by omega),if_neg (by omega),if_neg (by omega),if_pos hlt]
  have d2:((sk:Int)==2)=false:=by rw[beq_eq_false_iff_ne];omega
  have d3:((sk:Int)==3)=false:=by rw[beq_eq_false_iff_ne];omega
  have d4:((sk:Int)==4)=false:=by rw[beq_eq_false_iff_ne];omega
  clear hk4 hlt
  obtain⟨c0,c1,c2,c3,c4,c5,c6,c7,c8,c9⟩:=Blk.c10 (H.out)
  obtain⟨f0,f1,f2,f3,f4,f5,f6,f7,f8,f9⟩:=Blk.f10 (H.out)
  go_enter Tryz.func143,Tryz.ntmps143
  go_wp2_with fail
  rw[<- HW0.out]
  refine(HS.out _ N0.out).mono ?_
  rintro e w1 ⟨rfl,n1⟩
  clear c0 c1 c2 c3 c4 c5 c6 c7 c8 c9
  clear f0 f1 f2 f3 f4 f5 f6 f7 f8 f9
  obtain⟨c0,c1,c2,c3,c4,c5,c6,c7,c8,c9⟩:=Blk.c10 ((H.out.nb N0.out).nb n1)
  obtain⟨f0,f1,f2,f3,f4,f5,f6,f7,f8,f9⟩:=Blk.f10 ((H.out.nb N0.out).nb n1)
  have Q1:=zH ((H.out.nb N0.out).nb n1)
  have N1:=zH n1
  have qq:=Blk.set Q1.out 2 (.int .i64 (n.x.length:Nat))
  have kk:Kp (fun b=>b=R) w (w1.setCell ⟨R,2,none⟩ (.int .i64 (n.x.length:Nat))):=((Kp.ofNb N0.out).tr (Kp.ofNb (F:=fun b=>b=R) n1) (fun _ h => .inl h)).tr (Kp.set (F:=fun b=>b=R) rfl) (fun _ h => .inl h)
  have X1:=zH ((X0.out.nb n1).keep (Kp.set (F:=fun b=>b=R) (p:=⟨R,2,none⟩) (u := .int .i64 (n.x.length:Nat)) rfl) (by omega))
  have qq2:NB (w1.setCell ⟨R,2,none⟩ (.int .i64 (n.x.length:Nat))) R n n.count ld rw:=by
   unfold Nd.count
   rw[if_pos HP.out]
   exact qq
  have QQ:=zH qq2
  have KK:=zH kk
  clear qq qq2 kk n1
  go_wp2_with (refine wpR (X1.out) ?_)
  have kq:=Kp.row (w1.setCell ⟨R,2,none⟩ (.int .i64 (n.x.length:Nat))) ((w.heap.size+1)) (z0b zM (.slice none 0 0))
  exact zI (Blk.row (X1.out) (z0b zM (.slice none 0 0))) (⟨rfl,QQ.out.keep kq (by omega),KK.out.tr kq (fun _ h => .inr (by omega))⟩)
theorem z5V(kind:Nat):(n.heard kind).1.count=(n.heard 0).1.count/\(n.heard kind).1=(n.heard 0).1:=by
 unfold Nd.heard
 (repeat' split)<;>exact⟨rfl,rfl⟩
theorem zb4(_hp:n.ph=3)(kind:Nat):(n.sta.k < 2->(n.heard kind).1=n)/\(¬n.sta.k < 2->(n.heard kind).1.ph≠2/\(n.heard kind).1.ph≠3):=by
 have h4:n.sta.k<=4:=z4Z n.kn n.x
 unfold Nd.heard
 refine⟨fun h=>by rw[if_neg (by omega),if_neg (by omega),if_neg (by omega)],fun h => ?_⟩
 rcases(by omega:n.sta.k=2\/n.sta.k=3\/n.sta.k=4)with h2 | h2 | h2
 ·rw[if_pos h2]
  exact⟨by show(4:Nat)≠2;omega,by show(4:Nat)≠3;omega⟩
 ·rw[if_neg (by omega),if_pos h2]
  unfold Nd.wrong
  cases (z14 n.fa 4).O
  ·exact⟨by show(5:Nat)≠2;omega,by show(5:Nat)≠3;omega⟩
  ·exact⟨by show(10:Nat)≠2;omega,by show(10:Nat)≠3;omega⟩
 ·rw[if_neg (by omega),if_neg (by omega),if_pos h2]
  exact⟨by show(0:Nat)≠2;omega,by show(0:Nat)≠3;omega⟩
theorem z8Q(n:Nd)(kind:Nat):(n.heard kind).1.has=n.has:=by
 unfold Nd.heard
 (repeat' split)<;>rfl
theorem z6Y(kind:Nat):(n.heard kind).2.l=if n.sta.k=2 then n.sta.l else []:=by
 unfold Nd.heard
 split
 ·rfl
 ·split
  ·rfl
  ·split<;>rfl
theorem zgf(n:Nd):(n.sta.k=2\/n.sta.k=3->(n.heard 3).2=(n.heard 0).2/\(n.heard 0).2.k≠0)/\(¬(n.sta.k=2\/n.sta.k=3)->(n.heard 3).2=⟨3,0,noF,[]⟩/\(n.heard 0).2=z02):=by
 unfold Nd.heard
 constructor
 ·rintro(h | h)
  ·rw[if_pos h,if_pos h]
   exact⟨rfl,by show(2:Nat)≠0;omega⟩
  ·rw[if_neg (by omega),if_pos h,if_neg (by omega),if_pos h]
   exact⟨rfl,by show(4:Nat)≠0;omega⟩
 ·intro h
  have a2:¬n.sta.k=2:=fun h2=>h (.inl h2)
  have a3:¬n.sta.k=3:=fun h3=>h (.inr h3)
  simp only[if_neg a2,if_neg a3]
  split<;>exact⟨rfl,rfl⟩
theorem z5A {GM1:Nat->Prop} {kind:Nat} (hv:e = .returned v)
    (hev:v=evV (n.heard kind).2 (if n.sta.k=2 then .slice a n.sta.l.length cap else .slice none 0 0)) (hb:Bs w' a cap n.sta.l) (ha:∀b o t,a=some ⟨b,o,t⟩->GM1 b\/w.heap.size<=b)
    (hq:NB w' R (n.heard 0).1 (n.heard 0).1.count ld (if n.sta.k < 2 then rw else .pointer none)) (hk:Kp (fun b=>b=R) w1 w') (hp:n.ph=3) (hm:z0l w1 rw n.kn n.x GM1) (hR:¬GM1 R)
    (hl:ld=if n.has then ld else .pointer none) (hG:∀k,GM1 k->GM k\/w.heap.size<=k) (hk0:Kp (fun k=>k=R\/GM k) w w1):RT w R (n.heard kind).1 (n.heard kind).2 ld GL GM e w':=by
 have hm':=z03 hm hk (fun k h e=>hR (e ▸ h))
 rw[<- (z5V kind).1,<- (z5V kind).2]at hq
 have hkk:Kp (fun k=>k=R\/GM k) w w':=hk0.tr hk (fun k h => .inl (.inl h))
 have hlt:=z4i hm'
 have hrow:z0W w' (if n.sta.k < 2 then rw else .pointer none) (n.heard kind).1 GM1:=by
  unfold z0W
  by_cases hs:n.sta.k < 2
  ·rw[(zb4 hp kind).1 hs,if_pos (.inr hp),if_pos hs]
   exact hm'
  ·rw[if_neg (by have:=(zb4 hp kind).2 hs;omega),if_neg hs]
 by_cases h2:n.sta.k=2
 ·rw[if_pos h2]at hev
  have hk2:(n.heard kind).2.k=2:=by unfold Nd.heard;rw[if_pos h2]
  refine⟨GM1,_,_,a,cap,?_,?_,fun b o t e => .inr ((ha b o t e).imp (fun q=>⟨hk2,q⟩) (fun q=>⟨hk2,q⟩)),hq,?_,hrow,hG,hlt,hkk⟩
  ·rw[hv,hev,z6Y,if_pos h2]
  ·rw[z6Y,if_pos h2];exact hb
  ·rw[z8Q];exact hl
 ·rw[if_neg h2]at hev
  refine⟨GM1,_,_,none,0,?_,?_,fun b o t e=>(by cases e),hq,?_,hrow,hG,hlt,hkk⟩
  ·rw[hv,hev,z6Y,if_neg h2];rfl
  ·rw[z6Y,if_neg h2];exact Bs.nil _
  ·rw[z8Q];exact hl
theorem z2C (R:Nat) (n:Nd) (c:Nat) (ld rw:Value) (GL GM:Nat->Prop) (b:Nat) (w:World) (h:NB w R n c ld rw) (hm:z0l w rw n.kn n.x GM) (hR:¬GM R) (hp:n.ph=3) (ho:z2D n.fa=true) (hb:b<=1) (hx:n.x.length<=65000) (hB:z0i w) (hl:ld=if n.has then ld else .pointer none) (hcx:CxN w R GL GM) :
    Calls Tryz.prog 117 #[.pointer (some ⟨R,0,none⟩),.int .u8 (b:Nat)] w (RT w R (Nd.heard { n with x:=n.x++[b] } 0).1 (Nd.heard { n with x:=n.x++[b] } 0).2 ld GL GM):=by
 obtain⟨w0,HW0,N0,S0,X0⟩:=ev0 w
 obtain⟨c0,c1,c2,c3,c4,c5,c6,c7,c8,c9⟩:=Blk.c10 (h)
 have kn0:Kp (fun _=>False) w w0:=Kp.ofNb N0.out
 have hm0:=z03 hm kn0 (fun _ _ h=>h)
 have HS:=zH (zbs rw n.kn n.x GM b w0 hm0 hb hx (hB.below N0.out))
 obtain⟨m,hmn⟩:∃m:Nd,m={ n with x:=n.x++[b] }:=⟨_,rfl⟩
 rw[<- hmn]
 have hsta:zW (scS n.kn (n.x++[b]))=m.sta:=by rw[hmn];rfl
 have HQ:=zH (fun w1 (G1:Nat->Prop) (k1:Kp GM w0 w1) (m1:z0l w1 rw n.kn (n.x++[b]) G1)=>(show NB w1 R m c ld rw/\z0l w1 rw m.kn m.x G1 by rw[hmn];exact⟨(h.nb N0.out).keep k1 hR,m1⟩))
 have HP:=zH (show m.ph=3 by rw[hmn];exact hp)
 have HO:=zH (show z2D m.fa=true by rw[hmn];exact ho)
 have HL:=zH (show ld=if m.has then ld else .pointer none by rw[hmn];exact hl)
 have CX:=zH hcx
 have HR:=zH hR
 have hRw:=NB.lt h
 unfold zl4 at HS
 rw[hsta]at HS
 obtain⟨s,hs⟩:∃s,m.sta=s:=⟨_,rfl⟩
 obtain⟨ev,hev⟩:∃ev,(m.heard 0).2=ev:=⟨_,rfl⟩
 have HRV:=zH (fun w1 (G1:Nat->Prop) (q:NB w1 R m c ld rw) (m1:z0l w1 rw m.kn m.x G1) a cap=>z3U R m c ld rw G1 a cap w1 q m1 HP.out HO.out)
 rw[hs]at HS HRV
 rw[hev]at HRV ⊢
 have HSE:=zH hs
 have HEV:=zH hev
 clear h hm hR hp ho hb hx hB hl hcx kn0 hm0 hmn hsta hs hev
 obtain⟨sk,se,⟨K,I,X,Rr,B,E,S,Dd,V,A⟩,sl⟩:=s
 obtain⟨ek,ee,⟨eK,eI,eX,eR,eB,eE,eS,eD,eV,eA⟩,el⟩:=ev
 simp only[z1V,evV]at HS HRV
 go_enter Tryz.func117,Tryz.ntmps117
 go_wp2_with fail
 rw[<- HW0.out]
 refine HS.out.mono ?_
 rintro e w1 ⟨G1,⟨a,cp,rfl,hbs,hab⟩,m1,k1,g1⟩
 obtain⟨q1,m1'⟩:=HQ.out w1 G1 k1 m1
 have hR1:¬G1 R:=fun hg=>by
  rcases g1 R hg with h | h
  ·exact HR.out h
  ·have:=S0.out;omega
 have n12:Nb w1 (w1.alloc (.cells #[.int .i64 sk,.int .i64 se,.int .i64 K,.int .u32 I,.bool X,.bool Rr,.bool B,.bool E,.bool S,.int .u8 Dd,.int .u8 V,.int .u32 A,.slice a sl.length cp] 173)):=Nb.rfl.al _
 have Y2:=zH (Blk.new w1 #[.int .i64 sk,.int .i64 se,.int .i64 K,.int .u32 I,.bool X,.bool Rr,.bool B,.bool E,.bool S,.int .u8 Dd,.int .u8 V,.int .u32 A,.slice a sl.length cp] 173)
 have HRV2:=zH (HRV.out _ G1 (q1.nb n12) (z03 m1' (Kp.ofNb (F:=fun _=>False) n12) (fun _ _ h=>h)) a cp)
 have M2:=zH (z03 m1' (Kp.ofNb (F:=fun _=>False) n12) (fun _ _ h=>h))
 have B2:=zH (hbs.below n12)
 have HAB:=zH hab
 have G1':=zH g1
 have HR1:=zH hR1
 have K2:=zH (k1.tr (Kp.ofNb (F:=GM) n12) (fun _ h => .inl h))
 have X2:=zH ((X0.out.keep k1 (fun hg=>by have:=CX.out.gm _ hg;omega)).nb n12)
 clear q1 m1' m1 k1 g1 hbs hab hR1 n12 HS HQ HRV
 obtain⟨w2,hw2⟩:∃w2,w2=w1.alloc (.cells #[.int .i64 sk,.int .i64 se,.int .i64 K,.int .u32 I,.bool X,.bool Rr,.bool B,.bool E,.bool S,.int .u8 Dd,.int .u8 V,.int .u32 A,.slice a sl.length cp] 173):=⟨_,rfl⟩
 rw[<- hw2]at Y2 HRV2 M2 B2 K2 X2
 have HW2:=zH hw2
 clear hw2
 obtain⟨va,vl,vc,hvv⟩:∃va vl vc,(if sk=2 then Value.slice a sl.length cp else .slice none 0 0) = .slice va vl vc:=by split<;>exact⟨_,_,_,rfl⟩
 rw[hvv]at HRV2
 have HVV:=zH hvv
 clear hvv c0 c1 c2 c3 c4 c5 c6 c7 c8 c9
 go_wp2_with fail
 rw[<- HW2.out]
 refine HRV2.out.mono ?_
 rintro e w3 ⟨rfl,q3,k3⟩
 have Z:=zH (z5A (w:=w0) (GL:=GL) (GM:=GM) (GM1:=G1) (w1:=w2) (w':=w3) (n:=m) (a:=a) (cap:=cp) (kind:=0) (e := .returned (z1V (⟨ek,ee,⟨eK,eI,eX,eR,eB,eE,eS,eD,eV,eA⟩,el⟩:Sta) (.slice va vl vc))) rfl (by rw[HEV.out,HSE.out,<- HVV.out];rfl) (by
  rw[HSE.out]
  refine B2.out.keepKp k3 (fun g o t e hg => ?_)
  subst hg
  rcases HAB.out _ _ _ e with h | h
  ·exact HR1.out h
  ·have:=S0.out;omega) HAB.out (by rw[HSE.out];exact q3) k3 HP.out M2.out HR1.out HL.out G1'.out (K2.out.mono (fun _ _ h => .inr h)))
 rw[HEV.out]at Z
 have X3:=zH (X2.out.keep k3 (by omega))
 clear q3 k3
 go_wp2_with (refine wpR (X3.out) ?_)
 have kq:=Kp.row w3 (w.heap.size) (z0b (⟨ek,ee,⟨eK,eI,eX,eR,eB,eE,eS,eD,eV,eA⟩,el⟩:Sta) (.slice va vl vc))
 exact zI (Blk.row (X3.out) (z0b (⟨ek,ee,⟨eK,eI,eX,eR,eB,eE,eS,eD,eV,eA⟩,el⟩:Sta) (.slice va vl vc))) (RT.mk N0.out Z.out kq CX.out (Nat.le_refl _) (by have:=S0.out;omega))
theorem z5O (R:Nat) (n:Nd) (c:Nat) (ld rw:Value) (GL GM:Nat->Prop) (w:World) (h:NB w R n c ld rw) (ho:z2D n.fa=true) (hB:z0i w) (hl:ld=if n.has then ld else .pointer none) (hcx:CxN w R GL GM) :
    Calls Tryz.prog 138 #[.pointer (some ⟨R,0,none⟩),.int .u8 0] w (RT w R n.begin z02 ld GL GM):=by
 obtain⟨w0,HW0,N0,S0,X0⟩:=ev0 w
 have HB:=zH (z41 R n c ld rw 3 w0 (h.nb N0.out) (hB.below N0.out))
 have HK:=zH (fun w' (k:Kp (fun b=>b=R) w0 w')=>(h.nb N0.out).both (hB.below N0.out) k)
 have HO:=zH ho
 have HL:=zH hl
 have HR:=NB.lt h
 have CX:=zH hcx
 clear h ho hB hl hcx
 go_enter Tryz.func138,Tryz.ntmps138
 go_wp2_with fail
 rw[<- HW0.out]
 refine HB.out.mono ?_
 rintro e w1 ⟨rfl,r1,G1,q1,m1,g1,k1⟩
 have hR1:¬G1 R:=fun hg=>by have:=g1 R hg;have:=S0.out;omega
 have HT:=zH (z2C R { n.to 3 with x:=[] } 0 ld r1 GL G1 0 w1 q1 m1 hR1 rfl HO.out (by omega) (by simp) (HK.out w1 k1) HL.out ((CX.out.up (Nat.le_trans N0.out.size k1.size)).row (z4i m1)))
 have K1:=zH k1
 have G1':=zH g1
 have X1:=zH (X0.out.keep k1 (by omega))
 clear q1 m1 k1 g1 hR1
 go_wp2_with fail
 refine HT.out.mono ?_
 have e1:Nd.heard { { n.to 3 with x:=[] } with x:=[]++[0] } 0=(n.begin,z02):=by
  unfold Nd.heard
  have:({ { n.to 3 with x:=[] } with x:=[]++[0] }:Nd).sta=zM:=by
   show zW (scS n.kn [0])=zM
   cases n.kn<;>rfl
  simp only[this]
  rfl
 simp only at e1 ⊢
 rw[e1]
 intro e w2 r
 have X2:=zH (X1.out.keep r.kp (fun hg=>by
  rcases hg with h | h
  ·omega
  ·have:=G1'.out _ h;have:=S0.out;omega))
 obtain⟨a,cp,rfl,r⟩:=r.is
 have Z:=zH (RT.from2 (GM:=GM) K1.out G1'.out r)
 clear r e1
 go_wp2_with (refine wpR (X2.out) ?_)
 have kq:=Kp.row w2 (w.heap.size) (z0b zM (.slice a 0 cp))
 exact zI (Blk.row (X2.out) (z0b zM (.slice a 0 cp))) (RT.mk N0.out Z.out kq CX.out (Nat.le_refl _) (by have:=S0.out;omega))
theorem zfG (R:Nat) (n:Nd) (c:Nat) (ld rw:Value) (GL GM GM0:Nat->Prop) (a:Option Addr) (cap:Nat) (wS w:World) (h:NB w R n c ld rw) (hm:z0l w rw n.kn n.x GM) (hR:¬GM R) (ho:z2D n.fa=true) (hbs:Bs w a cap n.sta.l) (hab:∀b o t,a=some ⟨b,o,t⟩->GM b\/wS.heap.size<=b) (hl:ld=if n.has then ld else .pointer none) (hG:∀k,GM k->GM0 k\/wS.heap.size<=k) (hR0:R < wS.heap.size) (hk0:Kp (fun k=>k=R\/GM0 k) wS w) :
    Calls Tryz.prog 142 #[.pointer (some ⟨R,0,none⟩),z1V n.sta (.slice a n.sta.l.length cap)] w (RT wS R (Nd.heard { n with ph:=3,c:=0,snd:=false } 3).1 (Nd.heard { n with ph:=3,c:=0,snd:=false } 3).2 ld GL GM0):=by
 obtain⟨m,hmn⟩:∃m:Nd,m={ n with ph:=3,c:=0,snd:=false }:=⟨_,rfl⟩
 rw[<- hmn]
 have hsta:n.sta=m.sta:=by rw[hmn];rfl
 have hrv:=fun w' (q:NB w' R m c ld rw) (mm:z0l w' rw m.kn m.x GM)=>z3U R m c ld rw GM a cap w' q mm (by rw[hmn]) (by rw[hmn];exact ho)
 rw[hsta]at hbs ⊢
 have hkn:m.kn=n.kn:=by rw[hmn]
 have hxx:m.x=n.x:=by rw[hmn]
 have hmh:m.has=n.has:=by rw[hmn]
 have hm3:m.ph=3:=by rw[hmn]
 have hset:∀w',NB w' R n c ld rw->NB ((w'.setCell ⟨R,8,none⟩ (.bool false)).setCell ⟨R,1,none⟩ (.int .i64 3)) R m c ld rw:=fun w' q=>by rw[hmn];exact(Blk.set q 8 (.bool false)).set 1 (.int .i64 3)
 rw[<- hmh]at hl
 rw[<- hkn,<- hxx]at hm
 clear hmn hsta hkn hxx hmh
 have hev:=zgf m
 have hRw:=NB.lt h
 have HF:=zH (fun(e:Ending) w' v (hv:e = .returned v) (g1:v=evV (m.heard 3).2 (if m.sta.k=2 then .slice a m.sta.l.length cap else .slice none 0 0)) (g3:NB w' R (m.heard 0).1 (m.heard 0).1.count ld (if m.sta.k < 2 then rw else .pointer none)) (g4:Kp (fun b=>b=R) w w') =>
  z5A (GL:=GL) (kind:=3) hv g1 (hbs.keepKp g4 (fun g o t e hg=>by
   subst hg
   rcases hab _ _ _ e with h | h
   ·exact hR h
   ·omega)) hab g3 g4 hm3 hm hR hl hG hk0)
 have hk4:=z4Z m.kn m.x
 change m.sta.k<=4 at hk4
 obtain⟨s,hs⟩:∃s,m.sta=s:=⟨_,rfl⟩
 obtain⟨ev0,hev0⟩:∃ev,(m.heard 0).2=ev:=⟨_,rfl⟩
 rw[hs]at HF hrv hev hk4 ⊢
 rw[hev0]at hrv hev
 have HM2:=zH (fun w' (k:Kp (fun b=>b=R) w w')=>z03 hm k (fun k hk e=>hR (e ▸ hk)))
 have HRV:=zH hrv
 have H:=zH h
 have HST:=zH hset
 have HEV:=zH hev
 clear hs hev0 hrv h hset hbs hab hl hG hR0 hk0 hm hR ho hm3 hk4
 obtain⟨sk,se,⟨K,I,X,Rr,B,E,S,Dd,V,A⟩,sl⟩:=s
 simp only[z1V]at HRV ⊢
 obtain⟨c0,c1,c2,c3,c4,c5,c6,c7,c8,c9⟩:=Blk.c10 (H.out)
 obtain⟨f0,f1,f2,f3,f4,f5,f6,f7,f8,f9⟩:=Blk.f10 (H.out)
 obtain⟨ws,hws⟩:∃ws,ws=(w.setCell ⟨R,8,none⟩ (.bool false)).setCell ⟨R,1,none⟩ (.int .i64 3):=⟨_,rfl⟩
 have sw:ws.heap.size=w.heap.size:=by rw[hws];simp[World.setCell]
 have qs:NB ws R m c ld rw:=by rw[hws];exact HST.out _ H.out
 have ks:Kp (fun b=>b=R) w ws:=by rw[hws];exact(Kp.r1 _ _).rr (Kp.r1 _ _)
 obtain⟨w0,hw0⟩:∃w0,w0=(ws.alloc (.cells #[.int .i64 sk,.int .i64 se,.int .i64 K,.int .u32 I,.bool X,.bool Rr,.bool B,.bool E,.bool S,.int .u8 Dd,.int .u8 V,.int .u32 A,.slice a sl.length cap] 173)).alloc (.cells #[.int .i64 0,.int .i64 0,.int .i64 0,.int .u32 0,.bool false,.bool false,.bool false,.bool false,.bool false,.int .u8 0,.int .u8 0,.int .u32 0,.slice none 0 0] 40):=⟨_,rfl⟩
 have n0:Nb ws w0:=by rw[hw0];exact(Nb.rfl.al _).al _
 have s0:w0.heap.size=w.heap.size+1+1:=by rw[hw0,World.size_alloc,World.size_alloc,sw]
 have X0:=zH (show Blk w0 (w.heap.size+1) #[.int .i64 0,.int .i64 0,.int .i64 0,.int .u32 0,.bool false,.bool false,.bool false,.bool false,.bool false,.int .u8 0,.int .u8 0,.int .u32 0,.slice none 0 0] 40 by
  rw[hw0]
  have:=Blk.new (ws.alloc (.cells #[.int .i64 sk,.int .i64 se,.int .i64 K,.int .u32 I,.bool X,.bool Rr,.bool B,.bool E,.bool S,.int .u8 Dd,.int .u8 V,.int .u32 A,.slice a sl.length cap] 173)) #[.int .i64 0,.int .i64 0,.int .i64 0,.int .u32 0,.bool false,.bool false,.bool false,.bool false,.bool false,.int .u8 0,.int .u8 0,.int .u32 0,.slice none 0 0] 40
  rwa[World.size_alloc,sw]at this)
 have kk:Kp (fun b=>b=R) w w0:=ks.rn n0
 rw[hws]at hw0
 have HW0:=zH hw0
 have S0:=zH s0
 have KK:=zH kk
 have HRV1:=zH (HRV.out _ (qs.nb n0) (HM2.out _ kk))
 obtain⟨va,vl,vc,hvv⟩:∃va vl vc,(if sk=2 then Value.slice a sl.length cap else .slice none 0 0) = .slice va vl vc:=by split<;>exact⟨_,_,_,rfl⟩
 simp only at HRV1 HF HEV
 rw[hvv]at HRV1 HF
 have HVV:=zH hvv
 obtain⟨ek,ee,⟨eK,eI,eX,eR,eB,eE,eS,eD,eV,eA⟩,el⟩:=ev0
 simp only[evV,z1V]at HRV1
 clear kk hws sw qs ks n0 s0 hw0 HRV HST hvv
 by_cases hk:sk=2\/sk=3
 ·obtain⟨g1,g2⟩:=HEV.out.1 hk
  have dk:((ek:Int)==0)=false:=by rw[beq_eq_false_iff_ne];simp only at g2;omega
  have HE:=zH g1
  clear hk g1 g2 HEV
  go_enter Tryz.func142,Tryz.ntmps142
  go_wp2_with fail
  rw[<- HW0.out]
  refine HRV1.out.mono ?_
  rintro e w2 ⟨rfl,q2,k2⟩
  have hs2:w.heap.size+1 < w2.heap.size:=by have:=k2.size;have:=S0.out;omega
  have n3:Nb w2 (w2.alloc (.cells #[.int .i64 ek,.int .i64 ee,.int .i64 eK,.int .u32 eI,.bool eX,.bool eR,.bool eB,.bool eE,.bool eS,.int .u8 eD,.int .u8 eV,.int .u32 eA,(.slice va vl vc)] 40)):=Nb.rfl.al _
  have x3:=(X0.out.keep k2 (by omega)).nb n3
  have Q3:=zH (q2.nb n3)
  have K3:=zH ((KK.out.rr k2).rn n3)
  have X3:=zH x3
  clear q2 k2 c0 c1 c2 c3 c4 c5 c6 c7 c8 c9 f0 f1 f2 f3 f4 f5 f6 f7 f8 f9 n3 x3
  go_wp2_with (refine wpR (X3.out) ?_)
  have kq:=Kp.row (w2.alloc (.cells #[.int .i64 ek,.int .i64 ee,.int .i64 eK,.int .u32 eI,.bool eX,.bool eR,.bool eB,.bool eE,.bool eS,.int .u8 eD,.int .u8 eV,.int .u32 eA,(.slice va vl vc)] 40)) ((w.heap.size+1)) (z0b (⟨ek,ee,⟨eK,eI,eX,eR,eB,eE,eS,eD,eV,eA⟩,el⟩:Sta) (.slice va vl vc))
  exact zI (Blk.row (X3.out) (z0b (⟨ek,ee,⟨eK,eI,eX,eR,eB,eE,eS,eD,eV,eA⟩,el⟩:Sta) (.slice va vl vc))) (HF.out _ _ _ rfl (by rw[HE.out];rfl) (Q3.out.keep kq (by omega)) (K3.out.tr kq (fun _ h => .inr (by omega))))
 ·obtain⟨g1,g2⟩:=HEV.out.2 hk
  have g3:ek=0:=congrArg Ev.k g2
  have dk:((ek:Int)==0)=true:=by rw[beq_iff_eq];omega
  have HE:=zH g1
  have hv2:Value.slice va vl vc = .slice none 0 0:=by rw[<- HVV.out,if_neg (by omega)]
  have HV2:=zH hv2
  clear hk g1 g2 g3 HEV hv2
  go_enter Tryz.func142,Tryz.ntmps142
  go_wp2_with fail
  rw[<- HW0.out]
  refine HRV1.out.mono ?_
  rintro e w2 ⟨rfl,q2,k2⟩
  have hs2:w.heap.size+1 < w2.heap.size:=by have:=k2.size;have:=S0.out;omega
  have n3:Nb w2 (w2.alloc (.cells #[.int .i64 ek,.int .i64 ee,.int .i64 eK,.int .u32 eI,.bool eX,.bool eR,.bool eB,.bool eE,.bool eS,.int .u8 eD,.int .u8 eV,.int .u32 eA,(.slice va vl vc)] 40)):=Nb.rfl.al _
  have x3:=(X0.out.keep k2 (by omega)).nb n3
  have Q3:=zH (q2.nb n3)
  have K3:=zH ((KK.out.rr k2).rn n3)
  have X3:=zH x3
  clear q2 k2 c0 c1 c2 c3 c4 c5 c6 c7 c8 c9 f0 f1 f2 f3 f4 f5 f6 f7 f8 f9 n3 x3
  go_wp2_with (refine wpR (X3.out) ?_)
  have kq:=Kp.row (w2.alloc (.cells #[.int .i64 ek,.int .i64 ee,.int .i64 eK,.int .u32 eI,.bool eX,.bool eR,.bool eB,.bool eE,.bool eS,.int .u8 eD,.int .u8 eV,.int .u32 eA,(.slice va vl vc)] 40)) ((w.heap.size+1)) (z0b (⟨3,0,noF,[]⟩:Sta) (.slice none 0 0))
  exact zI (Blk.row (X3.out) (z0b (⟨3,0,noF,[]⟩:Sta) (.slice none 0 0))) (HF.out _ _ _ rfl (by rw[HE.out,HV2.out];rfl) (Q3.out.keep kq (by omega)) (K3.out.tr kq (fun _ h => .inr (by omega))))
theorem Blk.c14{u10 u11 u12 u13:Value}(h:Blk w R #[u0,u1,u2,u3,u4,u5,u6,u7,u8,u9,u10,u11,u12,u13] t):w.cell? ⟨R,0,none⟩=some u0/\w.cell? ⟨R,1,none⟩=some u1/\w.cell? ⟨R,2,none⟩=some u2/\w.cell? ⟨R,3,none⟩=some u3/\w.cell? ⟨R,4,none⟩=some u4/\w.cell? ⟨R,5,none⟩=some u5/\w.cell? ⟨R,6,none⟩=some u6/\w.cell? ⟨R,7,none⟩=some u7/\w.cell? ⟨R,8,none⟩=some u8/\w.cell? ⟨R,9,none⟩=some u9/\w.cell? ⟨R,10,none⟩=some u10/\w.cell? ⟨R,11,none⟩=some u11/\w.cell? ⟨R,12,none⟩=some u12/\w.cell? ⟨R,13,none⟩=some u13 :=
 ⟨h.cell 0,h.cell 1,h.cell 2,h.cell 3,h.cell 4,h.cell 5,h.cell 6,h.cell 7,h.cell 8,h.cell 9,h.cell 10,h.cell 11,h.cell 12,h.cell 13⟩
def z1e(w:World)(ld:Value)(f:Hd)(l:List Nat)(G:Nat->Prop):Prop :=
 ∃L a c aw cw,ld = .pointer (some ⟨L,0,none⟩)/\Blk w L #[.int .i64 f.K,.int .u32 f.I,.bool f.X,.bool f.R,.bool f.B,.bool f.E,.bool f.S,.int .u8 f.D,.int .u8 f.V,.int .u32 f.A,.slice a l.length c,.slice aw (wF f l).length cw,.int .i64 (z2J f l:Nat),.int .i64 (z2P f l:Nat)] 158/\Bs w a c l/\Bs w aw cw (wF f l)/\G L/\(∀b o t,a=some ⟨b,o,t⟩->G b)/\∀b o t,aw=some ⟨b,o,t⟩->G b
theorem z1e.keep{G F:Nat->Prop}{w w':World}{ld:Value}{f:Hd}{l:List Nat}(h:z1e w ld f l G)(hk:Kp F w w')(hn:∀k,G k->¬F k):z1e w' ld f l G:=by
 obtain⟨L,a,c,aw,cw,h1,h2,h3,h4,h5,h6,h7⟩:=h
 exact⟨L,a,c,aw,cw,h1,h2.keep hk (hn _ h5),h3.keepKp hk (fun b o t e=>hn _ (h6 b o t e)),h4.keepKp hk (fun b o t e=>hn _ (h7 b o t e)),h5,h6,h7⟩
theorem z1e.nb(h:z1e w ld f l G)(hk:Nb w w'):z1e w' ld f l G:=h.keep (Kp.ofNb (F:=fun _=>False) hk) (fun _ _ h=>h)
theorem z1e.ptr(h:z1e w ld f l G):∃L,ld = .pointer (some ⟨L,0,none⟩):=by
 obtain⟨L,_,_,_,_,h1,_⟩:=h
 exact⟨L,h1⟩
theorem Bs.cell1(h:Bs w a cap l){j:Nat}(hj:j < l.length):∃b o,a=some ⟨b,o,none⟩/\w.cell? ⟨b,o+j,none⟩=some (.int .u8 ((l.getD j 0:Nat):Int)):=by
 have hl:0 < l.length:=by omega
 obtain⟨b,o,ha,hc⟩:=h.hcells hl
 exact⟨b,o,ha,hc j hj⟩
theorem z3K(R:Nat)(n:Nd)(c:Nat)(ld rw:Value)(GL:Nat->Prop)(w:World)(h:NB w R n c ld rw)(hl:z1e w ld n.f n.l GL)(hc:c < (wF n.f n.l).length)(hlen:(wF n.f n.l).length<=70000):Calls Tryz.prog 93 #[.pointer (some ⟨R,0,none⟩)] w fun e w'=>e = .returned (.int .u8 (((wF n.f n.l).getD c 0:Nat):Int))/\∃k,w'=w.drewN k:=by
 obtain⟨c0,c1,c2,c3,c4,c5,c6,c7,c8,c9⟩:=Blk.c10 (h)
 obtain⟨L,a,cp,aw,cw,rfl,hb,_,hw,_⟩:=hl
 obtain⟨z0,z1,z2,z3,z4,z5,z6,z7,z8,z9,z10,z11,z12,z13⟩:=Blk.c14 (hb)
 obtain⟨b,o,rfl,hcell⟩:=hw.cell1 hc
 generalize (wF n.f n.l).getD c 0=y at *
 generalize (wF n.f n.l).length=N at *
 have hcN:(c:Int) < (N:Int):=by omega
 clear hb hw h
 go_enter Tryz.func93,Tryz.ntmps93
 go_wp2_with fail
 go_quiet (fail)
 go_wp2
 go_ret
 exact⟨rfl,_,rfl⟩
theorem z2O(R:Nat)(n:Nd)(c:Nat)(ld rw:Value)(GL:Nat->Prop)(w:World)(h:NB w R n c ld rw)(hl:z1e w ld n.f n.l GL)(hc:c < (wF n.f n.l).length)(hlen:(wF n.f n.l).length<=70000):Calls Tryz.prog 93 #[.pointer (some ⟨R,0,none⟩)] w fun e w'=>e = .returned (.int .u8 (((wF n.f n.l).getD c 0:Nat):Int))/\Nb w w' :=
 (z3K R n c ld rw GL w h hl hc hlen).mono fun e w' ⟨h1,k,h2⟩=>⟨h1,by rw[h2];exact Nb.drewN _ _⟩
theorem RT.go{wS:World}(hp:n.ph=2)(hh:n.has=true)(q:NB w1 R { n with c:=c+1 } (c+1) ld rw)(hm:z0l w rw n.kn n.x GM)(hR:¬GM R)(hG:∀k,GM k->GM0 k\/wS.heap.size<=k)(hk0:Kp (fun k=>k=R\/GM0 k) wS w)(k1:Kp (fun b=>b=R) w w1)(kq:Kp (fun x=>x=blk) w1 WW)(hRw:R < w.heap.size)(hlt:∀k,GM k->k < w.heap.size)(hbl:w.heap.size<=blk:=by exact Nat.le_refl _):RT wS R { n with c:=c+1 } z02 ld GL GM0 (.returned (evV z02 (.slice none 0 0))) WW:=by
 have m1:=z03 hm k1 (fun k hk e=>hR (e ▸ hk))
 have m2:=z03 m1 kq (fun k hk e=>by have:=hlt k hk;omega)
 refine⟨GM,ld,rw,none,0,rfl,Bs.nil _,fun b o t e=>(by cases e),?_,?_,?_,hG,z4i m2,(hk0.tr k1 (fun _ h => .inl (.inl h))).tr kq (fun k hk => .inr (by have:=hk0.size;omega))⟩
 ·have:({ n with c:=c+1 }:Nd).count=c+1:=by
   unfold Nd.count
   rw[if_neg (by show ¬n.ph=3;omega)]
  rw[this]
  exact q.keep kq (by omega)
 ·rw[if_pos (by show n.has=true;exact hh)]
 ·unfold z0W
  rw[if_pos (.inl hp)]
  exact m2
theorem RT.done{wS:World}{cp:Nat}(hbs:Bs w a cp l)(hab:∀b o t,a=some ⟨b,o,t⟩->GL b)(hRL:¬GL R)(q:NB w1 R { m with has:=false,ph:=8,c:=0 } 0 (.pointer none) (.pointer none))(hk0:Kp (fun k=>k=R\/GM0 k) wS w)(k1:Kp (fun b=>b=R) w w1)(kq:Kp (fun x=>x=blk) w1 WW)(hRw:R < w.heap.size)(hbl:w.heap.size<=blk:=by exact Nat.le_refl _):RT wS R { m with has:=false,ph:=8,c:=0 } ⟨1,0,f,l⟩ ld GL GM0 (.returned (evV ⟨1,0,f,l⟩ (.slice a l.length cp))) WW:=by
 have kk:Kp (fun b=>b=R) w WW:=k1.tr kq (fun k hk => .inr (by omega))
 refine⟨fun _=>False,_,_,a,cp,rfl,hbs.keepKp kk (fun b o t e hb=>hRL (hb ▸ hab b o t e)),fun b o t e => .inl ⟨rfl,hab b o t e⟩,q.keep kq (by omega),rfl,rfl,fun _ h=>h.elim,fun _ h=>h.elim,hk0.tr kk (fun _ h => .inl (.inl h))⟩
theorem z8A (R:Nat) (n:Nd) (ld rw:Value) (GL GM GM0:Nat->Prop) (wS w:World) (h:NB w R n n.c ld rw) (hld:z1e w ld n.f n.l GL) (hRL:¬GL R) (hm:z0l w rw n.kn n.x GM) (hR:¬GM R) (hp:n.ph=2) (hhas:n.has=true) (hlen:(wF n.f n.l).length<=70000) (hc:n.c < (wF n.f n.l).length) (ho:z2D n.fa=true) (hG:∀k,GM k->GM0 k\/wS.heap.size<=k) (hk0:Kp (fun k=>k=R\/GM0 k) wS w) :
    Calls Tryz.prog 141 #[.pointer (some ⟨R,0,none⟩)] w (RT wS R n.goOn.1 n.goOn.2 ld GL GM0):=by
 have hRw:=NB.lt h
 have CXM:=zH (z4i hm)
 have H:=zH h
 obtain⟨L,a,cp,aw,cw,rfl,hb,hbs,hbw,hL,hab,_⟩:=hld
 obtain⟨b,o,rfl,_⟩:=hbw.cell1 hc
 have hLw:=hb.lt
 have hLR:L≠R:=fun e=>hRL (e ▸ hL)
 obtain⟨c0,c1,c2,c3,c4,c5,c6,c7,c8,c9⟩:=Blk.c10 (h)
 obtain⟨f0,f1,f2,f3,f4,f5,f6,f7,f8,f9⟩:=Blk.f10 (h)
 obtain⟨z0,z1,z2,z3,z4,z5,z6,z7,z8,z9,z10,z11,z12,z13⟩:=Blk.c14 (hb)
 have HB:=zH hb
 have HBS:=zH hbs
 have HAB:=zH hab
 have HRL:=zH hRL
 have HM:=zH hm
 have HR:=zH hR
 have HP:=zH hp
 have HH:=zH hhas
 have HO:=zH ho
 have HG:=zH hG
 have HK0:=zH hk0
 unfold Nd.goOn
 by_cases hlt:n.c+1 < (wF n.f n.l).length
 ·rw[if_pos hlt]
  obtain⟨c,hcc⟩:∃c,n.c=c:=⟨_,rfl⟩
  rw[hcc]at hlt hc c2 H ⊢
  have d:decide ((c:Int)+1 < ((wF n.f n.l).length:Int))=true:=decide_eq_true (by omega)
  have d':decide (((c+1:Nat):Int) < ((wF n.f n.l).length:Int))=true:=decide_eq_true (by omega)
  have hcb:c < 70000:=by omega
  obtain⟨w1,hw1⟩:∃w1,w1=(w.setCell ⟨R,2,none⟩ (.int .i64 ((c:Nat)+1:Int))).alloc (.cells #[.int .i64 0,.int .i64 0,.int .i64 0,.int .u32 0,.bool false,.bool false,.bool false,.bool false,.bool false,.int .u8 0,.int .u8 0,.int .u32 0,.slice none 0 0] 40):=⟨_,rfl⟩
  have q1:NB w1 R { n with c:=c+1 } (c+1) (.pointer (some ⟨L,0,none⟩)) rw:=by rw[hw1];exact NB.nb (Blk.set H.out 2 (.int .i64 ((c+1:Nat):Int))) (Nb.rfl.al _)
  have k1:Kp (fun b=>b=R) w w1:=by rw[hw1];exact(Kp.r1 _ _).rn (Nb.rfl.al _)
  have X1:=zH (show Blk w1 w.heap.size #[.int .i64 0,.int .i64 0,.int .i64 0,.int .u32 0,.bool false,.bool false,.bool false,.bool false,.bool false,.int .u8 0,.int .u8 0,.int .u32 0,.slice none 0 0] 40 by
   rw[hw1]
   have:=Blk.new (w.setCell ⟨R,2,none⟩ (.int .i64 ((c:Nat)+1:Int))) #[.int .i64 0,.int .i64 0,.int .i64 0,.int .u32 0,.bool false,.bool false,.bool false,.bool false,.bool false,.int .u8 0,.int .u8 0,.int .u32 0,.slice none 0 0] 40
   rwa[show(w.setCell ⟨R,2,none⟩ (.int .i64 ((c:Nat)+1:Int))).heap.size=w.heap.size by simp[World.setCell]]at this)
  have Q1:=zH q1
  have K1:=zH k1
  have HW1:=zH hw1
  have HB1:=zH (hb.keep k1 hLR)
  clear h hb hbs hbw hab hRL hm hR hp hhas ho hG hk0 hcc hlt q1 k1 hlen hc hw1
  go_enter Tryz.func141,Tryz.ntmps141
  go_wp2_with fail
  rw[<- HW1.out]
  clear c0 c1 c2 c3 c4 c5 c6 c7 c8 c9
  clear f0 f1 f2 f3 f4 f5 f6 f7 f8 f9
  clear z0 z1 z2 z3 z4 z5 z6 z7 z8 z9 z10 z11 z12 z13
  obtain⟨c0,c1,c2,c3,c4,c5,c6,c7,c8,c9⟩:=Blk.c10 (Q1.out)
  obtain⟨z0,z1,z2,z3,z4,z5,z6,z7,z8,z9,z10,z11,z12,z13⟩:=Blk.c14 (HB1.out)
  go_quiet (fail)
  rename_i nq
  clear c0 c1 c2 c3 c4 c5 c6 c7 c8 c9 z0 z1 z2 z3 z4 z5 z6 z7 z8 z9 z10 z11 z12 z13
  go_wp2_with (refine wpR (X1.out.drewN nq) ?_)
  have kq:=Kp.row (w1.drewN nq) (w.heap.size) (z0b zM (.slice none 0 0))
  exact zI (Blk.row (X1.out.drewN nq) (z0b zM (.slice none 0 0))) (RT.go HP.out HH.out (Q1.out.nb (Nb.drewN _ nq)) HM.out HR.out HG.out HK0.out (K1.out.rn (Nb.drewN _ nq)) kq hRw CXM.out)
 ·rw[if_neg hlt]
  obtain⟨c,hcc⟩:∃c,n.c=c:=⟨_,rfl⟩
  rw[hcc]at hlt hc c2 H
  have d:decide ((c:Int)+1 < ((wF n.f n.l).length:Int))=false:=decide_eq_false (by omega)
  have d':decide (((c+1:Nat):Int) < ((wF n.f n.l).length:Int))=false:=decide_eq_false (by omega)
  have hcb:c < 70000:=by omega
  obtain⟨w1,hw1⟩:∃w1,w1=(w.setCell ⟨R,2,none⟩ (.int .i64 ((c:Nat)+1:Int))).alloc (.cells #[.int .i64 0,.int .i64 0,.int .i64 0,.int .u32 0,.bool false,.bool false,.bool false,.bool false,.bool false,.int .u8 0,.int .u8 0,.int .u32 0,.slice none 0 0] 40):=⟨_,rfl⟩
  have q1:NB w1 R { n with c:=c+1 } (c+1) (.pointer (some ⟨L,0,none⟩)) rw:=by rw[hw1];exact NB.nb (Blk.set H.out 2 (.int .i64 ((c+1:Nat):Int))) (Nb.rfl.al _)
  have k1:Kp (fun b=>b=R) w w1:=by rw[hw1];exact(Kp.r1 _ _).rn (Nb.rfl.al _)
  have X1:=zH (show Blk w1 w.heap.size #[.int .i64 0,.int .i64 0,.int .i64 0,.int .u32 0,.bool false,.bool false,.bool false,.bool false,.bool false,.int .u8 0,.int .u8 0,.int .u32 0,.slice none 0 0] 40 by
   rw[hw1]
   have:=Blk.new (w.setCell ⟨R,2,none⟩ (.int .i64 ((c:Nat)+1:Int))) #[.int .i64 0,.int .i64 0,.int .i64 0,.int .u32 0,.bool false,.bool false,.bool false,.bool false,.bool false,.int .u8 0,.int .u8 0,.int .u32 0,.slice none 0 0] 40
   rwa[show(w.setCell ⟨R,2,none⟩ (.int .i64 ((c:Nat)+1:Int))).heap.size=w.heap.size by simp[World.setCell]]at this)
  have Q1:=zH q1
  have K1:=zH k1
  have HW1:=zH hw1
  have HB1:=zH (hb.keep k1 hLR)
  have HO1:=zH ho
  generalize hff:n.f=ff at *
  obtain⟨fK,fI,fX,fR,fB,fE,fS,fD,fV,fA⟩:=ff
  clear h hb hbs hbw hab hRL hm hR hp hhas ho hG hk0 hcc hlt q1 k1 hlen hc hw1 hff
  go_enter Tryz.func141,Tryz.ntmps141
  go_wp2_with fail
  rw[<- HW1.out]
  clear c0 c1 c2 c3 c4 c5 c6 c7 c8 c9
  clear f0 f1 f2 f3 f4 f5 f6 f7 f8 f9
  clear z0 z1 z2 z3 z4 z5 z6 z7 z8 z9 z10 z11 z12 z13
  obtain⟨c0,c1,c2,c3,c4,c5,c6,c7,c8,c9⟩:=Blk.c10 (Q1.out)
  obtain⟨z0,z1,z2,z3,z4,z5,z6,z7,z8,z9,z10,z11,z12,z13⟩:=Blk.c14 (HB1.out)
  go_quiet (fail)
  rename_i nq
  clear c0 c1 c2 c3 c4 c5 c6 c7 c8 c9 z0 z1 z2 z3 z4 z5 z6 z7 z8 z9 z10 z11 z12 z13
  obtain⟨w2,hw2⟩:∃w2,w2=w1.drewN nq:=⟨_,rfl⟩
  rw[<- hw2]
  have n12:Nb w1 w2:=by rw[hw2];exact Nb.drewN _ _
  have Q2:=zH (Q1.out.nb n12)
  have K2:=zH (K1.out.rn n12)
  have X2:=zH (X1.out.nb n12)
  have hs2:w.heap.size < w2.heap.size:=X2.out.lt
  have hRw2:R < w2.heap.size:=by omega
  have hLw2:L < w2.heap.size:=by omega
  obtain⟨c0,c1,c2,c3,c4,c5,c6,c7,c8,c9⟩:=Blk.c10 (Q2.out)
  obtain⟨f0,f1,f2,f3,f4,f5,f6,f7,f8,f9⟩:=Blk.f10 (Q2.out)
  obtain⟨z0,z1,z2,z3,z4,z5,z6,z7,z8,z9,z10,z11,z12,z13⟩:=Blk.c14 (HB1.out.nb n12)
  clear n12 hw2 HW1 HB1 Q1 K1 X1
  obtain⟨w3,hw3⟩:∃w3,w3=(w2.setCell ⟨R,6,none⟩ (.pointer none)).alloc (.cells #[.int .i64 fK,.int .u32 fI,.bool fX,.bool fR,.bool fB,.bool fE,.bool fS,.int .u8 fD,.int .u8 fV,.int .u32 fA,.slice a n.l.length cp] 37):=⟨_,rfl⟩
  have sw:(w2.setCell ⟨R,6,none⟩ (.pointer none)).heap.size=w2.heap.size:=by simp[World.setCell]
  have q3:NB w3 R n (c+1) (.pointer none) rw:=by rw[hw3];exact NB.nb (Blk.set Q2.out 6 (.pointer none)) (Nb.rfl.al _)
  have k23:Kp (fun b=>b=R) w2 w3:=by rw[hw3];exact(Kp.r1 _ _).rn (Nb.rfl.al _)
  have X3:=zH (X2.out.keep k23 (by omega))
  have Y3:=zH (show Blk w3 w2.heap.size #[.int .i64 fK,.int .u32 fI,.bool fX,.bool fR,.bool fB,.bool fE,.bool fS,.int .u8 fD,.int .u8 fV,.int .u32 fA,.slice a n.l.length cp] 37 by
   rw[hw3]
   have:=Blk.new (w2.setCell ⟨R,6,none⟩ (.pointer none)) #[.int .i64 fK,.int .u32 fI,.bool fX,.bool fR,.bool fB,.bool fE,.bool fS,.int .u8 fD,.int .u8 fV,.int .u32 fA,.slice a n.l.length cp] 37
   rwa[sw]at this)
  have HC:=zH (z22 R n (c+1) (.pointer none) rw 1 _ q3 HO.out (by decide))
  have HG2:=zH (fun w' (q:NB w' R { n with fa:=z14 n.fa 1 } (c+1) (.pointer none) rw)=>z0Y R _ (c+1) (.pointer none) rw 8 w' q)
  have K3:=zH (K2.out.rr k23)
  have HW3:=zH hw3
  have hs3:w2.heap.size < w3.heap.size:=Y3.out.lt
  clear sw q3 k23 hw3
  go_wp2_with fail
  rw[<- HW3.out]
  refine HC.out.mono ?_
  rintro e w4 ⟨rfl,q4,k4⟩
  have HG3:=zH (HG2.out _ q4)
  have Y4:=zH (Y3.out.keep k4 (by omega))
  have X4:=zH (X3.out.keep k4 (by omega))
  have K4:=zH (K3.out.rr k4)
  clear q4 k4 HG2 HC
  go_wp2_with fail
  refine HG3.out.mono ?_
  rintro e w5 ⟨rfl,q5,k5⟩
  have Y5:=zH (Y4.out.keep k5 (by omega))
  have X5:=zH (X4.out.keep k5 (by omega))
  have Q5:=zH q5
  have K5:=zH (K4.out.rr k5)
  clear q5 k5
  clear c0 c1 c2 c3 c4 c5 c6 c7 c8 c9
  clear f0 f1 f2 f3 f4 f5 f6 f7 f8 f9
  clear z0 z1 z2 z3 z4 z5 z6 z7 z8 z9 z10 z11 z12 z13
  obtain⟨x0,x1,x2,x3,x4,x5,x6,x7,x8,x9,x10⟩:=Y5.out.c11
  go_wp2_with (refine wpR (X5.out) ?_)
  have kq:=Kp.row w5 (w.heap.size) (z0b (⟨1,0,⟨fK,fI,fX,fR,fB,fE,fS,fD,fV,fA⟩,n.l⟩:Sta) (.slice a n.l.length cp))
  exact zI (Blk.row (X5.out) (z0b (⟨1,0,⟨fK,fI,fX,fR,fB,fE,fS,fD,fV,fA⟩,n.l⟩:Sta) (.slice a n.l.length cp))) (RT.done HBS.out HAB.out HRL.out Q5.out HK0.out K5.out kq hRw)
end Go.Proofs.YtplbmlpdefpplaaGreatDoor
