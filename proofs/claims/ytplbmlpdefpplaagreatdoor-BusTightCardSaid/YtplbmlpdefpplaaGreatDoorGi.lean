/- Contracts of the scanner's parts, and more. Conditions: as each says. -/
import Derived.Test.YtplbmlpdefpplaaGreatDoorGh
set_option maxHeartbeats 1600000
set_option maxRecDepth 100000
namespace Go.Proofs.YtplbmlpdefpplaaGreatDoor
set_option linter.unusedVariables false
set_option linter.unusedSimpArgs false
open Go.RowKit
theorem z64 (R:Nat) (m:PM) (vn vd:Value) (P:Nat->Prop) (w:World) (h:MS w R m vn vd P) :
    Calls Tryz.prog 243 #[.pointer (some ⟨R,0,none⟩)] w (z1z w R vd P (z1f .delimited m)):=by
 obtain⟨vi,vR,vP,hb,_⟩:=h.blk
 have c30:w.cell? ⟨R,30,none⟩=some (.bool m.wrong):=hb.cell 30
 have c2:w.cell? ⟨R,2,none⟩=some (.int .i64 m.is.k):=hb.cell 2
 have f2:=hb.frozen 2
 have c29:w.cell? ⟨R,29,none⟩=some vn:=hb.cell 29
 have f29:=hb.frozen 29
 cases hw:m.wrong with
 | true =>
   rw[hw]at c30
   have s1:=h.st.put { m with nx := .slot } (.func (.func 249) #[.pointer (some ⟨R,0,none⟩)] #[]) 29 (.func (.func 249) #[.pointer (some ⟨R,0,none⟩)] #[]) (fun _ _ _=>rfl) rfl rfl rfl rfl
   have eE:z1f .delimited m={ m with nx := .slot }:=by simp[z1f,hw]
   rw[eE]
   have S:=zH s1
   clear s1 eE h hb hw
   go_enter Tryz.func243,Tryz.ntmps243
   go_wp2
   go_end0
   exact⟨rfl,_,fun _=>False,_,_,S.out,rfl,fun _ h=>h.elim⟩
 | false =>
   rw[hw]at c30
   have s1:=(h.st.put { m with is:={ m.is with k:=1 } } vn 2 (.int .i64 1) (fun _ _ _=>rfl) rfl rfl rfl rfl).put { m with is:={ m.is with k:=1 },nx := .slot } (.func (.func 249) #[.pointer (some ⟨R,0,none⟩)] #[]) 29 (.func (.func 249) #[.pointer (some ⟨R,0,none⟩)] #[]) (fun _ _ _=>rfl) rfl rfl rfl rfl
   have eE:z1f .delimited m={ m with is:={ m.is with k:=1 },nx := .slot }:=by simp[z1f,hw]
   rw[eE]
   have S:=zH s1
   clear s1 eE h hb hw
   go_enter Tryz.func243,Tryz.ntmps243
   go_wp2
   go_end0
   exact⟨rfl,_,fun _=>False,_,_,S.out,rfl,fun _ h=>h.elim⟩
theorem zeQ (R:Nat) (m:PM) (vn vd:Value) (P:Nat->Prop) (b:Nat) (w:World) (h:MS w R m vn vd P) :
    Calls Tryz.prog 249 #[.pointer (some ⟨R,0,none⟩),.int .u8 b] w (z1z w R vd P { m with is:={ m.is with k:=0 },nx := .behind }):=by
 obtain⟨vi,vR,vP,hb,_⟩:=h.blk
 have c2:w.cell? ⟨R,2,none⟩=some (.int .i64 m.is.k):=hb.cell 2
 have f2:=hb.frozen 2
 have c29:w.cell? ⟨R,29,none⟩=some vn:=hb.cell 29
 have f29:=hb.frozen 29
 have s1:=(h.st.put { m with is:={ m.is with k:=0 } } vn 2 (.int .i64 0) (fun _ _ _=>rfl) rfl rfl rfl rfl).put { m with is:={ m.is with k:=0 },nx := .behind } (.func (.func 257) #[.pointer (some ⟨R,0,none⟩)] #[]) 29 (.func (.func 257) #[.pointer (some ⟨R,0,none⟩)] #[]) (fun _ _ _=>rfl) rfl rfl rfl rfl
 have S:=zH s1
 clear s1 h hb
 go_enter Tryz.func249,Tryz.ntmps249
 go_wp2
 go_end0
 exact⟨rfl,_,fun _=>False,_,_,S.out,rfl,fun _ h=>h.elim⟩
theorem zei (R:Nat) (m:PM) (vn vd:Value) (P:Nat->Prop) (w:World) (h:MS w R m vn vd P) :
    Calls Tryz.prog 265 #[.pointer (some ⟨R,0,none⟩)] w (z1z w R vd P (z1f .done m)):=by
 obtain⟨a,c,hvd,hbs,ho⟩:=h.own.bs
 have he:=z9C R m vn vd P ⟨2,0,m.f,m.l⟩ vd w h ⟨a,c,hvd,hbs,fun b o t e => .inr (ho b o t e)⟩
 obtain⟨vi,vR,vP,hb,_⟩:=h.blk
 simp only[z1V]at he
 have c31:w.cell? ⟨R,31,none⟩=some (.int .i64 m.f.K):=hb.cell 31
 have c32:w.cell? ⟨R,32,none⟩=some (.int .u32 m.f.I):=hb.cell 32
 have c38:w.cell? ⟨R,38,none⟩=some (.int .u8 m.f.D):=hb.cell 38
 have c39:w.cell? ⟨R,39,none⟩=some (.int .u8 m.f.V):=hb.cell 39
 have c40:w.cell? ⟨R,40,none⟩=some (.int .u32 m.f.A):=hb.cell 40
 have c33:w.cell? ⟨R,33,none⟩=some (.bool m.f.X):=hb.cell 33
 have c34:w.cell? ⟨R,34,none⟩=some (.bool m.f.R):=hb.cell 34
 have c35:w.cell? ⟨R,35,none⟩=some (.bool m.f.B):=hb.cell 35
 have c36:w.cell? ⟨R,36,none⟩=some (.bool m.f.E):=hb.cell 36
 have c37:w.cell? ⟨R,37,none⟩=some (.bool m.f.S):=hb.cell 37
 have c41:w.cell? ⟨R,41,none⟩=some vd:=hb.cell 41
 have HE:=zH he
 clear he h hbs ho hb
 subst hvd
 go_enter Tryz.func265,Tryz.ntmps265
 go_wp2_with fail
 refine HE.out.mono ?_
 rintro e w4 ⟨rfl,h4⟩
 have H4:=zH h4
 clear h4
 go_wp2
 go_end0
 exact⟨rfl,H4.out⟩
theorem zh3 (R:Nat) (m:PM) (vn vd:Value) (P:Nat->Prop) (b:Nat) (w:World) (h:MS w R m vn vd P) (hx:z48 w P R b) :
    Calls Tryz.prog 244 #[.pointer (some ⟨b,0,none⟩)] w (z1z w R vd P (z1f .esi m)):=by
 have cb:w.cell? ⟨b,0,none⟩=some (.pointer (some ⟨R,0,none⟩)):=hx.2.cell 0
 have HF:=zH (z44 R m vn vd P .esi .fdSize _ _ _ w.drew (h.nb (Nb.drewN w 1)) ⟨_,_,rfl,⟨rfl,_,rfl,hx.more (show Nb w w.drew from Nb.drewN w 1) (fun _ h=>h)⟩,trivial⟩)
 have S:=zH (h.st.nb (show Nb w w.drew from Nb.drewN w 1))
 have hR:=h.ltR
 have hb:=hx.2.lt
 clear h hx
 go_enter Tryz.func244,Tryz.ntmps244
 go_wp2
 go_region_with (
  (go_at_call 225
   refine HF.out.mono ?_
   rintro e w8 ⟨rfl,h8⟩
   have H8:=zH (zZ.from S.out h8)
   clear h8))
 all_goals go_end0
 all_goals exact⟨rfl,H8.out⟩
theorem zin (R:Nat) (m:PM) (vn vd:Value) (P:Nat->Prop) (w:World) (h:MS w R m vn vd P) :
    Calls Tryz.prog 236 #[.pointer (some ⟨R,0,none⟩)] w (z1z w R vd P m.fd):=by
 obtain⟨s1,b1⟩:=h.st.box (.pointer (some ⟨R,0,none⟩)) 109
 obtain⟨m2,e2⟩:∃m2:PM,m2={ m with f:={ m.f with K:=2 } }:=⟨_,rfl⟩
 have s2:=s1.put m2 vn 31 (.int .i64 2) (fun _ _ _=>by rw[e2];rfl) (by rw[e2]) (by rw[e2]) (by rw[e2]) (by rw[e2])
 have b2:=b1.set s1 31 (.int .i64 2)
 obtain⟨m3,e3⟩:∃m3:PM,m3={ m2 with oP:=[] }:=⟨_,rfl⟩
 have s3:=s2.putP (KsV.nil _ _)
 rw[<- e3]at s3
 have b3:=b2.set s2 28 (.slice none 0 0)
 obtain⟨vi,vR,vP,hb,_⟩:=s1.ms.blk
 have c31:(w.alloc (.cells #[.pointer (some ⟨R,0,none⟩)] 109)).cell? ⟨R,31,none⟩=some (.int .i64 m.f.K):=hb.cell 31
 have f31:=hb.frozen 31
 have c28:(w.alloc (.cells #[.pointer (some ⟨R,0,none⟩)] 109)).cell? ⟨R,28,none⟩=some vP:=hb.cell 28
 have f28:=hb.frozen 28
 have hbR:w.heap.size≠R:=by have:=h.ltR;omega
 have eE:m.fd=m3.num 1 (.flag .brs .esi):=by rw[e3,e2];rfl
 have EE:=zH eE
 have S3:=zH s3
 have B3:=zH b3
 clear h s1 b1 s2 b2 s3 b3 hb e2 e3 eE
 go_enter Tryz.func236,Tryz.ntmps236
 go_wp2
 generalize ((w.alloc (.cells #[.pointer (some ⟨R,0,none⟩)] 109)).setCell ⟨R,31,none⟩ (.int .i64 2)).setCell ⟨R,28,none⟩ (.slice none 0 0)=w2 at *
 clear c31 f31 c28 f28
 have hR2:R < w2.heap.size:=S3.out.ms.ltR
 have hb2:w.heap.size < w2.heap.size:=B3.out.2.lt
 have cb:w2.cell? ⟨w.heap.size,0,none⟩=some (.pointer (some ⟨R,0,none⟩)):=B3.out.2.cell 0
 have HF:=zH (z44 R m3 vn vd _ .brs .esi _ _ _ w2.drew (S3.out.ms.nb (Nb.drewN w2 1)) ⟨_,_,rfl,⟨rfl,_,rfl,B3.out.more (show Nb w2 w2.drew from Nb.drewN w2 1) (fun _ h=>h)⟩,trivial⟩)
 have S:=zH (S3.out.nb (show Nb w2 w2.drew from Nb.drewN w2 1))
 go_region_with (
  (go_at_call 225
   refine HF.out.mono ?_
   rintro e w8 ⟨rfl,h8⟩
   have H8:=zH (zZ.from S.out h8)
   clear h8))
 all_goals go_end0
 all_goals exact⟨rfl,by rw[EE.out];exact H8.out⟩
theorem z7n (R:Nat) (m:PM) (vn vd:Value) (P:Nat->Prop) (w:World) (h:MS w R m vn vd P) :
    Calls Tryz.prog 247 #[.pointer (some ⟨R,0,none⟩)] w (z1z w R vd P (z1f .dataPart m)):=by
 obtain⟨s1,b1⟩:=h.st.box (.pointer (some ⟨R,0,none⟩)) 109
 obtain⟨m2,e2⟩:∃m2:PM,m2={ m with raw := .spaced }:=⟨_,rfl⟩
 have s2:=s1.put m2 vn 15 (.func (.func 251) #[.pointer (some ⟨R,0,none⟩)] #[]) (fun _ _ _=>by rw[e2];rfl) (by rw[e2]) (by rw[e2]) (by rw[e2]) (by rw[e2])
 have b2:=b1.set s1 15 (.func (.func 251) #[.pointer (some ⟨R,0,none⟩)] #[])
 obtain⟨vi,vR,vP,hb,_⟩:=s1.ms.blk
 have c15:(w.alloc (.cells #[.pointer (some ⟨R,0,none⟩)] 109)).cell? ⟨R,15,none⟩=some (zib R m.raw):=hb.cell 15
 have f15:=hb.frozen 15
 have hbR:w.heap.size≠R:=by have:=h.ltR;omega
 have E2:=zH e2
 have S2:=zH s2
 have B2:=zH b2
 clear h s1 b1 s2 b2 hb e2
 go_enter Tryz.func247,Tryz.ntmps247
 go_wp2
 generalize (w.alloc (.cells #[.pointer (some ⟨R,0,none⟩)] 109)).setCell ⟨R,15,none⟩ (.func (.func 251) #[.pointer (some ⟨R,0,none⟩)] #[])=w2 at *
 clear c15 f15
 obtain⟨vi,vR,vP,hb,_⟩:=S2.out.ms.blk
 have hR2:R < w2.heap.size:=S2.out.ms.ltR
 have hb2:w.heap.size < w2.heap.size:=B2.out.2.lt
 have c19:w2.cell? ⟨R,19,none⟩=some (.int .i64 m2.every):=hb.cell 19
 have f19:=hb.frozen 19
 have c20:w2.cell? ⟨R,20,none⟩=some (.int .i64 m2.since):=hb.cell 20
 have f20:=hb.frozen 20
 have cb:w2.cell? ⟨w.heap.size,0,none⟩=some (.pointer (some ⟨R,0,none⟩)):=B2.out.2.cell 0
 clear hb
 go_region
 obtain⟨m3,e3⟩:∃m3:PM,m3={ m2 with every:=8 }:=⟨_,rfl⟩
 have s3:=S2.out.put m3 vn 19 (.int .i64 8) (fun _ _ _=>by rw[e3];rfl) (by rw[e3]) (by rw[e3]) (by rw[e3]) (by rw[e3])
 obtain⟨m4,e4⟩:∃m4:PM,m4={ m3 with since:=0 }:=⟨_,rfl⟩
 have s4:=s3.put m4 vn 20 (.int .i64 0) (fun _ _ _=>by rw[e4];rfl) (by rw[e4]) (by rw[e4]) (by rw[e4]) (by rw[e4])
 have b4:=(B2.out.set S2.out 19 (.int .i64 8)).set s3 20 (.int .i64 0)
 have S4:=zH (s4.nb (show Nb _ (World.drew _)from Nb.drewN _ 1))
 have B4:=zH (b4.more (show Nb _ (World.drew _)from Nb.drewN _ 1) (fun _ h=>h))
 have E4:=zH (e4.trans (by rw[e3]:_={ m2 with every:=8,since:=0 }))
 clear s3 s4 b4 e3 e4 c19 f19 c20 f20 cb hR2 hb2
 go_wp2
 generalize ((w2.setCell ⟨R,19,none⟩ (.int .i64 8)).setCell ⟨R,20,none⟩ (.int .i64 0)).drew=w3 at *
 obtain⟨vi,vR,vP,hb,_⟩:=S4.out.ms.blk
 have hR3:R < w3.heap.size:=S4.out.ms.ltR
 have hb3:w.heap.size < w3.heap.size:=B4.out.2.lt
 have f27:=hb.frozen 27
 have f28:=hb.frozen 28
 have c27:w3.cell? ⟨R,27,none⟩=some vR:=hb.cell 27
 have c28:w3.cell? ⟨R,28,none⟩=some vP:=hb.cell 28
 have cb:w3.cell? ⟨w.heap.size,0,none⟩=some (.pointer (some ⟨R,0,none⟩)):=B4.out.2.cell 0
 clear hb
 go_region
 obtain⟨s5,k5⟩:=S4.out.kinds [4,5] #[.int .i64 4,.int .i64 5] rfl 2 rfl
 obtain⟨m5,e5⟩:∃m5:PM,m5={ m4 with oR:=[] }:=⟨_,rfl⟩
 have s6:=s5.putR (KsV.nil _ _)
 rw[<- e5]at s6
 obtain⟨m6,e6⟩:∃m6:PM,m6={ m5 with oP:=[4,5] }:=⟨_,rfl⟩
 have b6:=((B4.out.more (Nb.rfl.al _) (fun _ h => .inl h)).set s5 27 (.slice none 0 0)).set s6 28 (.slice (some ⟨w3.heap.size,0,none⟩) 2 2)
 have s7:=s6.putP (k5.set s5 27 (.slice none 0 0))
 rw[<- e6]at s7
 rw[z6F w3 _ R hR3]at s7 b6
 have s8:=s7.nb (show Nb _ (World.drew _)from Nb.drewN _ 1)
 have b8:=b6.more (show Nb _ (World.drew _)from Nb.drewN _ 1) (fun _ h=>h)
 have kn:=z0c R m6 vn vd _ 8 .sdt _ _ _ _ s8.ms ⟨_,_,rfl,rfl,_,rfl,b8⟩ (by omega) (by omega)
 have cb8:_=some (Value.pointer (some ⟨R,0,none⟩)):=b8.2.cell 0
 have eE:z1f .dataPart m=m6.num 8 .sdt:=by rw[e6,e5,E4.out,E2.out];rfl
 have EE:=zH eE
 have KN:=zH kn
 have S8:=zH s8
 clear kn s5 s6 s7 s8 k5 b6 b8 eE e5 e6
 generalize (((w3.setCell ⟨R,27,none⟩ (.slice none 0 0)).setCell ⟨R,28,none⟩ (.slice (some ⟨w3.heap.size,0,none⟩) 2 2)).alloc (.cells #[.int .i64 4,.int .i64 5] 3)).drew=w9 at *
 go_wp2_with fail
 refine KN.out.mono ?_
 rintro e wf ⟨rfl,h4⟩
 have H4:=zH (zZ.from S8.out h4)
 clear h4
 go_wp2
 go_end0
 exact⟨rfl,by rw[EE.out];exact H4.out⟩
theorem zdN (R:Nat) (m:PM) (vn vd:Value) (P:Nat->Prop) (b d x:Nat) (w:World) (h:MS w R m vn vd P) (hx:z48 w P R b) (hy:zfQ w P d x) (hk:x=2\/x=3) (hs:m.stuffs<=100000) :
    Calls Tryz.prog 250 #[.pointer (some ⟨b,0,none⟩),.pointer (some ⟨d,0,none⟩)] w (z1z w R vd P (z1f (.fixd x) m)):=by
 obtain⟨vi,vR,vP,hb,_⟩:=h.blk
 have cb:w.cell? ⟨b,0,none⟩=some (.pointer (some ⟨R,0,none⟩)):=hx.2.cell 0
 have c15:w.cell? ⟨R,15,none⟩=some (zib R m.raw):=hb.cell 15
 have f15:=hb.frozen 15
 have hbR:b≠R:=fun e=>h.nP b hx.1 (.inl e)
 have hdR:d≠R:=fun e=>h.nP d hy.1 (.inl e)
 obtain⟨m2,e2⟩:∃m2:PM,m2={ m with raw := .spaced }:=⟨_,rfl⟩
 have s2:=h.st.put m2 vn 15 (.func (.func 251) #[.pointer (some ⟨R,0,none⟩)] #[]) (fun _ _ _=>by rw[e2];rfl) (by rw[e2]) (by rw[e2]) (by rw[e2]) (by rw[e2])
 have B2:=zH (hx.set h.st 15 (.func (.func 251) #[.pointer (some ⟨R,0,none⟩)] #[]))
 have D2:=zH (hy.set h.st 15 (.func (.func 251) #[.pointer (some ⟨R,0,none⟩)] #[]))
 have E2:=zH e2
 have S2:=zH s2
 have HS:=zH hs
 clear h hx hy s2 hb e2 hs
 go_enter Tryz.func250,Tryz.ntmps250
 go_wp2
 generalize w.setCell ⟨R,15,none⟩ (.func (.func 251) #[.pointer (some ⟨R,0,none⟩)] #[])=w2 at *
 clear c15 f15 cb
 obtain⟨vi,vR,vP,hb,_⟩:=S2.out.ms.blk
 have hR2:R < w2.heap.size:=S2.out.ms.ltR
 have c19:w2.cell? ⟨R,19,none⟩=some (.int .i64 m2.every):=hb.cell 19
 have f19:=hb.frozen 19
 have c20:w2.cell? ⟨R,20,none⟩=some (.int .i64 m2.since):=hb.cell 20
 have f20:=hb.frozen 20
 have cb:w2.cell? ⟨b,0,none⟩=some (.pointer (some ⟨R,0,none⟩)):=B2.out.2.cell 0
 clear hb
 go_region
 obtain⟨m3,e3⟩:∃m3:PM,m3={ m2 with every:=4 }:=⟨_,rfl⟩
 have s3:=S2.out.put m3 vn 19 (.int .i64 4) (fun _ _ _=>by rw[e3];rfl) (by rw[e3]) (by rw[e3]) (by rw[e3]) (by rw[e3])
 obtain⟨m4,e4⟩:∃m4:PM,m4={ m3 with since:=4 }:=⟨_,rfl⟩
 have s4:=s3.put m4 vn 20 (.int .i64 4) (fun _ _ _=>by rw[e4];rfl) (by rw[e4]) (by rw[e4]) (by rw[e4]) (by rw[e4])
 have b4:=(B2.out.set S2.out 19 (.int .i64 4)).set s3 20 (.int .i64 4)
 have d4:=(D2.out.set S2.out 19 (.int .i64 4)).set s3 20 (.int .i64 4)
 have S4:=zH (s4.nb (show Nb _ (World.drew _)from Nb.drewN _ 1))
 have B4:=zH (b4.more (show Nb _ (World.drew _)from Nb.drewN _ 1) (fun _ h=>h))
 have D4:=zH (d4.more (show Nb _ (World.drew _)from Nb.drewN _ 1) (fun _ h=>h))
 have E4:=zH (e4.trans (by rw[e3]:_={ m2 with every:=4,since:=4 }))
 clear s3 s4 b4 d4 e3 e4 c19 f19 c20 f20 cb hR2
 generalize ((w2.setCell ⟨R,19,none⟩ (.int .i64 4)).setCell ⟨R,20,none⟩ (.int .i64 4)).drew=w3 at *
 have cb:w3.cell? ⟨b,0,none⟩=some (.pointer (some ⟨R,0,none⟩)):=B4.out.2.cell 0
 have cd:w3.cell? ⟨d,0,none⟩=some (.int .i64 (x:Nat)):=D4.out.2.cell 0
 obtain⟨s5,k5⟩:=S4.out.kinds [x] #[.int .i64 (x:Nat)] rfl 1 rfl
 obtain⟨vi,vR,vP,hb,_⟩:=s5.ms.blk
 have f28:=hb.frozen 28
 have c28:(w3.alloc (.cells #[.int .i64 (x:Nat)] 3)).cell? ⟨R,28,none⟩=some vP:=hb.cell 28
 obtain⟨m5,e5⟩:∃m5:PM,m5={ m4 with oP:=[x] }:=⟨_,rfl⟩
 have s6:=s5.putP k5
 rw[<- e5]at s6
 have b5:=B4.out.more ((Nb.rfl (w:=w3)).al (.cells #[.int .i64 (x:Nat)] 3)) (fun b hb=>Or.inl (b:=b=w3.heap.size) hb)
 have b6:=b5.set s5 28 (.slice (some ⟨w3.heap.size,0,none⟩) 1 1)
 have d6:=(D4.out.more ((Nb.rfl (w:=w3)).al (.cells #[.int .i64 (x:Nat)] 3)) (fun b hb=>Or.inl (b:=b=w3.heap.size) hb)).set s5 28 (.slice (some ⟨w3.heap.size,0,none⟩) 1 1)
 have cb5:(w3.alloc (.cells #[.int .i64 (x:Nat)] 3)).cell? ⟨b,0,none⟩=some (.pointer (some ⟨R,0,none⟩)):=b5.2.cell 0
 have hst:m5.stuffs<=100000:=by rw[e5,E4.out,E2.out];exact HS.out
 have kn:=z6l R m5 vn vd _ (.sumFd x) _ _ _ _ s6.ms ⟨_,_,rfl,⟨rfl,_,_,rfl,b6,d6⟩,hk⟩ hst
 have eE:z1f (.fixd x) m=m5.tally (.sumFd x):=by rw[e5,E4.out,E2.out];rfl
 have EE:=zH eE
 have KN:=zH kn
 have S6:=zH s6
 clear kn s5 s6 k5 b5 b6 d6 hb eE e5 hst
 go_wp2_with fail
 refine KN.out.mono ?_
 rintro e wf ⟨rfl,h4⟩
 have H4:=zH (zZ.from S6.out h4)
 clear h4
 go_wp2
 go_end0
 exact⟨rfl,by rw[EE.out];exact H4.out⟩
theorem K0.enters(k:K0):∀args w,(callFunc k.F args).run Tryz.prog w = .ok (.enter k.F args) w:=by
 cases k
 ·exact hcf _ _ Tryz.func200 (by rfl) (by decide +kernel)
 ·exact hcf _ _ Tryz.func227 (by rfl) (by decide +kernel)
 ·exact hcf _ _ Tryz.func237 (by rfl) (by decide +kernel)
 ·exact hcf _ _ Tryz.func247 (by rfl) (by decide +kernel)
 ·exact hcf _ _ Tryz.func235 (by rfl) (by decide +kernel)
 ·exact hcf _ _ Tryz.func243 (by rfl) (by decide +kernel)
 ·exact hcf _ _ Tryz.func265 (by rfl) (by decide +kernel)
 ·exact hcf _ _ Tryz.func264 (by rfl) (by decide +kernel)
 ·exact hcf _ _ Tryz.func226 (by rfl) (by decide +kernel)
 ·exact hcf _ _ Tryz.func233 (by rfl) (by decide +kernel)
 ·exact hcf _ _ Tryz.func244 (by rfl) (by decide +kernel)
 ·exact hcf _ _ Tryz.func245 (by rfl) (by decide +kernel)
 ·exact hcf _ _ Tryz.func250 (by rfl) (by decide +kernel)
 ·exact hcf _ _ Tryz.func253 (by rfl) (by decide +kernel)
 ·exact hcf _ _ Tryz.func255 (by rfl) (by decide +kernel)
 ·exact hcf _ _ Tryz.func259 (by rfl) (by decide +kernel)
 ·exact hcf _ _ Tryz.func260 (by rfl) (by decide +kernel)
 ·exact hcf _ _ Tryz.func263 (by rfl) (by decide +kernel)
theorem KS.enters(k:KS):∀args w,(callFunc k.F args).run Tryz.prog w = .ok (.enter k.F args) w:=by
 cases k
 ·exact hcf _ _ Tryz.func231 (by rfl) (by decide +kernel)
 ·exact hcf _ _ Tryz.func246 (by rfl) (by decide +kernel)
 ·exact hcf _ _ Tryz.func256 (by rfl) (by decide +kernel)
theorem KN.enters(k:KN):∀args w,(callFunc k.F args).run Tryz.prog w = .ok (.enter k.F args) w:=by
 cases k
 ·exact hcf _ _ Tryz.func212 (by rfl) (by decide +kernel)
 ·exact hcf _ _ Tryz.func221 (by rfl) (by decide +kernel)
 ·exact hcf _ _ Tryz.func223 (by rfl) (by decide +kernel)
 ·exact hcf _ _ Tryz.func224 (by rfl) (by decide +kernel)
 ·exact hcf _ _ Tryz.func228 (by rfl) (by decide +kernel)
 ·exact hcf _ _ Tryz.func229 (by rfl) (by decide +kernel)
 ·exact hcf _ _ Tryz.func238 (by rfl) (by decide +kernel)
 ·exact hcf _ _ Tryz.func240 (by rfl) (by decide +kernel)
 ·exact hcf _ _ Tryz.func248 (by rfl) (by decide +kernel)
 ·exact hcf _ _ Tryz.func254 (by rfl) (by decide +kernel)
 ·exact hcf _ _ Tryz.func261 (by rfl) (by decide +kernel)
 ·exact hcf _ _ Tryz.func262 (by rfl) (by decide +kernel)
theorem z3z (k:K0) (R:Nat) (m:PM) (vn vd:Value) (P:Nat->Prop) (K:Nat) (fi ca:Array Value) (w:World) (h:MS w R m vn vd P) (hB:z0i w) (hk:K0V w P R k (.func (.func K) fi ca)) (hs:m.stuffs<=100000) :
    Calls Tryz.prog K (fi++ca) w (z1z w R vd P (z1f k m)):=by
 obtain⟨a,c,e,hA,hok⟩:=hk
 cases e
 cases k
 case top=>obtain⟨rfl,rfl⟩:=hA;exact zhm R m vn vd P w h
 case classic=>obtain⟨rfl,rfl⟩:=hA;exact z4o R m vn vd P w h
 case headed=>obtain⟨rfl,rfl⟩:=hA;exact z9T R m vn vd P w h
 case dataPart=>obtain⟨rfl,rfl⟩:=hA;exact z7n R m vn vd P w h
 case tail=>obtain⟨rfl,rfl⟩:=hA;exact zfq R m vn vd P w h
 case delimited=>obtain⟨rfl,rfl⟩:=hA;exact z64 R m vn vd P w h
 case done=>obtain⟨rfl,rfl⟩:=hA;exact zei R m vn vd P w h
 case trailed=>obtain⟨rfl,rfl⟩:=hA;exact z8Z R m vn vd P w h
 case heads=>obtain⟨rfl,b,rfl,hx⟩:=hA;exact zcA R m vn vd P b w h hx
 case sumCl=>obtain⟨rfl,b,rfl,hx⟩:=hA;exact zcs R m vn vd P b w h hx hB
 case esi=>obtain⟨rfl,b,rfl,hx⟩:=hA;exact zh3 R m vn vd P b w h hx
 case fdSize=>obtain⟨rfl,b,rfl,hx⟩:=hA;exact z9t R m vn vd P b w h hx
 case fixd x=>obtain⟨rfl,b,d,rfl,hx,hy⟩:=hA;exact zdN R m vn vd P b d x w h hx hy hok hs
 case sumFd x=>obtain⟨rfl,b,d,rfl,hx,hy⟩:=hA;exact zbK R m vn vd P b d x w h hx hy hok hB
 case xlSize=>obtain⟨rfl,b,rfl,hx⟩:=hA;exact z9q R m vn vd P b w h hx
 case headSum n=>obtain⟨rfl,b,d,rfl,hx,hy⟩:=hA;exact z8N R m vn vd P b d n w h hx hy hok hB
 case vc n=>obtain⟨rfl,b,d,rfl,hx,hy⟩:=hA;exact ziN R m vn vd P b d n w h hx hy hok
 case sumXl=>obtain⟨rfl,b,rfl,hx⟩:=hA;exact zc3 R m vn vd P b w h hx hB
theorem K0V.F{w:World}{P:Nat->Prop}{R:Nat}{k:K0}{K:Nat}{fi ca:Array Value}(h:K0V w P R k (.func (.func K) fi ca)):K=k.F:=by
 obtain⟨a,c,e,_⟩:=h
 cases e
 rfl
theorem Box.orr{w w':World}{P:Nat->Prop}{c:Nat}{v:Value}{t:TypeId}(h:Box w P c v t)(hn:Nb w w')(q:Nat):Box w' (fun b=>P b\/b=q) c v t:=h.more hn (fun _ h => .inl h)
theorem z3S (R:Nat) (m:PM) (vn vd:Value) (P:Nat->Prop) (n:Nat) (k:K0) (K:Nat) (fi ca:Array Value) (w:World) (h:MS w R m vn vd P) (hB:z0i w) (hk:K0V w P R k (.func (.func K) fi ca)) (hn:n<=2048) (hs:m.stuffs<=100000) :
    Calls Tryz.prog 232 #[.pointer (some ⟨R,0,none⟩),.int .i64 n,.func (.func K) fi ca] w (z1z w R vd P (m.data n k)):=by
 obtain⟨s1,b1⟩:=h.st.box (.pointer (some ⟨R,0,none⟩)) 109
 obtain⟨s2,b2⟩:=s1.box (.int .i64 (n:Nat)) 3
 obtain⟨s3,b3⟩:=s2.box (.func (.func K) fi ca) 1
 have n2:Nb (w.alloc (.cells #[.pointer (some ⟨R,0,none⟩)] 109)) ((w.alloc (.cells #[.pointer (some ⟨R,0,none⟩)] 109)).alloc (.cells #[.int .i64 (n:Nat)] 3)):=Nb.rfl.al _
 have n3:Nb ((w.alloc (.cells #[.pointer (some ⟨R,0,none⟩)] 109)).alloc (.cells #[.int .i64 (n:Nat)] 3)) (((w.alloc (.cells #[.pointer (some ⟨R,0,none⟩)] 109)).alloc (.cells #[.int .i64 (n:Nat)] 3)).alloc (.cells #[.func (.func K) fi ca] 1)):=Nb.rfl.al _
 have n0:=((Nb.rfl (w:=w)).al (.cells #[.pointer (some ⟨R,0,none⟩)] 109)).tr (n2.tr n3)
 have k3:=hk.more n0 (fun b hb=>Or.inl (b:=b=((w.alloc (.cells #[.pointer (some ⟨R,0,none⟩)] 109)).alloc (.cells #[.int .i64 (n:Nat)] 3)).heap.size) (Or.inl (b:=b=(w.alloc (.cells #[.pointer (some ⟨R,0,none⟩)] 109)).heap.size) (Or.inl (b:=b=w.heap.size) hb)))
 have hcf:∀args w,(callFunc K args).run Tryz.prog w = .ok (.enter K args) w:=by rw[hk.F];exact k.enters
 by_cases h0:n=0
 ·subst h0
  have kn:=z3z k R m vn vd _ K fi ca _ s3.ms (hB.1.below n0 |> fun a=>⟨a,hB.2.below n0⟩) k3 hs
  have eE:m.data 0 k=z1f k m:=rfl
  rw[eE]
  simp only[World.size_alloc]at kn s3
  have KN:=zH kn
  have S3:=zH s3
  clear kn s1 s2 s3 b1 b2 b3 n2 n3 n0 h hk k3 eE hB
  go_enter Tryz.func232,Tryz.ntmps232
  go_wp2_with fail
  refine KN.out.mono ?_
  rintro e w4 ⟨rfl,h4⟩
  have H4:=zH (zZ.from S3.out h4)
  clear h4
  go_wp2
  go_end0
  exact⟨rfl,H4.out⟩
 ·have kn:=z0c R m vn vd _ 8 (.data n k) 240 #[] _ _ s3.ms ⟨_,_,rfl,rfl,⟨by omega,hn⟩,_,_,_,_,rfl,(b1.more n2 (fun _ h => .inl h)).more n3 (fun _ h => .inl h),b2.more n3 (fun _ h => .inl h),b3,k3⟩ (by omega) (by omega)
  have d0:((n:Int)==0)=false:=by rw[beq_eq_false_iff_ne];omega
  have eE:m.data n k=m.num 8 (.data n k):=if_neg h0
  rw[eE]
  simp only[World.size_alloc]at kn s3
  have KN:=zH kn
  have S3:=zH s3
  clear kn s1 s2 s3 b1 b2 b3 n2 n3 n0 h hk k3 eE hB h0
  go_enter Tryz.func232,Tryz.ntmps232
  go_wp2_with fail
  refine KN.out.mono ?_
  rintro e w4 ⟨rfl,h4⟩
  have H4:=zH (zZ.from S3.out h4)
  clear h4
  go_wp2
  go_end0
  exact⟨rfl,H4.out⟩
theorem zhA (R:Nat) (m:PM) (vn vd:Value) (P:Nat->Prop) (b n:Nat) (w:World) (h:MS w R m vn vd P) (hB:z0i w) (hx:z48 w P R b) (hn:n<=2048) (hs:m.stuffs<=100000) :
    Calls Tryz.prog 231 #[.int .i64 n,.pointer (some ⟨b,0,none⟩)] w (z1z w R vd P (zcw .cl n m)):=by
 have cb:w.cell? ⟨b,0,none⟩=some (.pointer (some ⟨R,0,none⟩)):=hx.2.cell 0
 have KN:=zH (z3S R m vn vd P n .sumCl _ _ _ w h hB ⟨_,_,rfl,⟨rfl,b,rfl,hx⟩,trivial⟩ hn hs)
 have eE:zcw .cl n m=m.data n .sumCl:=rfl
 rw[eE]
 clear h hx hB eE
 go_enter Tryz.func231,Tryz.ntmps231
 go_wp2_with fail
 refine KN.out.mono ?_
 rintro e w4 ⟨rfl,h4⟩
 have H4:=zH h4
 clear h4
 go_wp2
 go_end0
 exact⟨rfl,H4.out⟩
theorem z7H (R:Nat) (m:PM) (vn vd:Value) (P:Nat->Prop) (n:Nat) (w:World) (h:MS w R m vn vd P) (hn:n<=2048) (hs:m.stuffs<=100000) :
    Calls Tryz.prog 256 #[.pointer (some ⟨R,0,none⟩),.int .i64 n] w (z1z w R vd P (zcw .checked n m)):=by
 obtain⟨s1,b1⟩:=h.st.box (.pointer (some ⟨R,0,none⟩)) 109
 obtain⟨s2,b2⟩:=s1.box (.int .i64 (n:Nat)) 3
 have n2:Nb (w.alloc (.cells #[.pointer (some ⟨R,0,none⟩)] 109)) ((w.alloc (.cells #[.pointer (some ⟨R,0,none⟩)] 109)).alloc (.cells #[.int .i64 (n:Nat)] 3)):=Nb.rfl.al _
 have kn:=z6l R m vn vd _ (.headSum n) _ _ _ _ s2.ms ⟨_,_,rfl,⟨rfl,_,_,rfl,b1.more n2 (fun _ h => .inl h),b2⟩,hn⟩ hs
 have eE:zcw .checked n m=m.tally (.headSum n):=rfl
 rw[eE]
 simp only[World.size_alloc]at kn s2
 have KN:=zH kn
 have S2:=zH s2
 clear kn s1 s2 b1 b2 n2 h eE
 go_enter Tryz.func256,Tryz.ntmps256
 go_wp2_with fail
 refine KN.out.mono ?_
 rintro e w4 ⟨rfl,h4⟩
 have H4:=zH (zZ.from S2.out h4)
 clear h4
 go_wp2
 go_end0
 exact⟨rfl,H4.out⟩
theorem zai (R:Nat) (m:PM) (vn vd:Value) (P:Nat->Prop) (n:Nat) (w:World) (h:MS w R m vn vd P) (hB:z0i w) (hn:n<=2048) (hs:m.stuffs<=100000) :
    Calls Tryz.prog 246 #[.pointer (some ⟨R,0,none⟩),.int .i64 n] w (z1z w R vd P (zcw .sized n m)):=by
 obtain⟨x,hxd⟩:∃x,x=zx n:=⟨_,rfl⟩
 have hk:x=2\/x=3:=by rw[hxd];unfold zx;split<;>omega
 obtain⟨s1,b1⟩:=h.st.box (.pointer (some ⟨R,0,none⟩)) 109
 obtain⟨s2,b2⟩:=s1.box (.int .i64 (x:Nat)) 3
 obtain⟨s3,k3⟩:=s2.kinds [x] #[.int .i64 (x:Nat)] rfl 1 rfl
 have n2:Nb (w.alloc (.cells #[.pointer (some ⟨R,0,none⟩)] 109)) ((w.alloc (.cells #[.pointer (some ⟨R,0,none⟩)] 109)).alloc (.cells #[.int .i64 (x:Nat)] 3)):=Nb.rfl.al _
 have n3:Nb ((w.alloc (.cells #[.pointer (some ⟨R,0,none⟩)] 109)).alloc (.cells #[.int .i64 (x:Nat)] 3)) (((w.alloc (.cells #[.pointer (some ⟨R,0,none⟩)] 109)).alloc (.cells #[.int .i64 (x:Nat)] 3)).alloc (.cells #[.int .i64 (x:Nat)] 3)):=Nb.rfl.al _
 have b3:=(b1.orr n2 (w.alloc (.cells #[.pointer (some ⟨R,0,none⟩)] 109)).heap.size).orr n3 ((w.alloc (.cells #[.pointer (some ⟨R,0,none⟩)] 109)).alloc (.cells #[.int .i64 (x:Nat)] 3)).heap.size
 have d3:=b2.orr n3 ((w.alloc (.cells #[.pointer (some ⟨R,0,none⟩)] 109)).alloc (.cells #[.int .i64 (x:Nat)] 3)).heap.size
 obtain⟨vi,vR,vP,hb,_⟩:=s3.ms.blk
 obtain⟨m4,e4⟩:∃m4:PM,m4={ m with oR:=[x] }:=⟨_,rfl⟩
 have s4:=s3.putR k3
 rw[<- e4]at s4
 have b4:=b3.set s3 27 (.slice (some ⟨((w.alloc (.cells #[.pointer (some ⟨R,0,none⟩)] 109)).alloc (.cells #[.int .i64 (x:Nat)] 3)).heap.size,0,none⟩) 1 1)
 have d4:=d3.set s3 27 (.slice (some ⟨((w.alloc (.cells #[.pointer (some ⟨R,0,none⟩)] 109)).alloc (.cells #[.int .i64 (x:Nat)] 3)).heap.size,0,none⟩) 1 1)
 have hB4:=s4.both h hB
 have hst:m4.stuffs<=100000:=by rw[e4];exact hs
 have kn:=z3S R m4 vn vd _ n (.fixd x) _ _ _ _ s4.ms hB4 ⟨_,_,rfl,⟨rfl,_,_,rfl,b4,d4⟩,hk⟩ hn hst
 have f27:=hb.frozen 27
 have c27:=hb.cell 27
 have cb3:=b3.2.cell 0
 have eE:zcw .sized n m=m4.data n (.fixd x):=by rw[e4,hxd];rfl
 have EE:=zH eE
 have n0:=((Nb.rfl (w:=w)).al (.cells #[.pointer (some ⟨R,0,none⟩)] 109))
 simp only[World.size_alloc]at kn s4 f27 c27 cb3
 have c27':_=some vR:=c27
 have cb3':_=some (Value.pointer (some ⟨R,0,none⟩)):=cb3
 have KN:=zH kn
 have S4:=zH s4
 have HX:=zH hxd
 have hbR:w.heap.size≠R:=by have:=h.ltR;omega
 clear kn s1 s2 s3 s4 b1 b2 b3 d3 b4 d4 n2 n3 n0 h hB hB4 hst eE e4 k3 hb c27 cb3
 by_cases h16:16 < n
 ·have h16':decide (16 < (n:Int))=true:=by simp;omega
  have hx3:x=3:=by rw[HX.out];exact if_pos h16
  subst hx3
  clear hxd HX hk
  have hz:((3:Nat):Int)=3:=rfl
  simp only[hz]at f27 c27' cb3' KN S4
  go_enter Tryz.func246,Tryz.ntmps246
  go_wp2_with fail
  refine KN.out.mono ?_
  rintro e wf ⟨rfl,h4⟩
  have H4:=zH (zZ.from S4.out h4)
  clear h4
  go_wp2
  go_end0
  exact⟨rfl,by rw[EE.out];exact H4.out⟩
 ·have h16':decide (16 < (n:Int))=false:=by simp;omega
  have hx2:x=2:=by rw[HX.out];exact if_neg h16
  subst hx2
  clear hxd HX hk
  have hz:((2:Nat):Int)=2:=rfl
  simp only[hz]at f27 c27' cb3' KN S4
  go_enter Tryz.func246,Tryz.ntmps246
  go_wp2_with fail
  refine KN.out.mono ?_
  rintro e wf ⟨rfl,h4⟩
  have H4:=zH (zZ.from S4.out h4)
  clear h4
  go_wp2
  go_end0
  exact⟨rfl,by rw[EE.out];exact H4.out⟩
theorem zfd (k:KS) (R:Nat) (m:PM) (vn vd:Value) (P:Nat->Prop) (n:Nat) (K:Nat) (fi ca:Array Value) (w:World) (h:MS w R m vn vd P) (hB:z0i w) (hk:KSV w P R k (.func (.func K) fi ca)) (hn:n<=2048) (hs:m.stuffs<=100000) :
    Calls Tryz.prog K (fi++#[.int .i64 n]++ca) w (z1z w R vd P (zcw k n m)):=by
 obtain⟨a,c,e,hA⟩:=hk
 cases e
 cases k
 case cl=>obtain⟨rfl,b,rfl,hx⟩:=hA;exact zhA R m vn vd P b n w h hB hx hn hs
 case sized=>obtain⟨rfl,rfl⟩:=hA;exact zai R m vn vd P n w h hB hn hs
 case checked=>obtain⟨rfl,rfl⟩:=hA;exact z7H R m vn vd P n w h hn hs
theorem zfE{v:Nat}(h:v < 4294967296):IntKind.u32.wrap (v:Int)=v:=by
 rw[IntKind.wrap_u32];omega
theorem zip(v:Nat):IntKind.u8.wrap (v:Int)=((v%256:Nat):Int):=by
 rw[IntKind.wrap_u8];omega
theorem z5Y (R:Nat) (m:PM) (vn vd:Value) (P:Nat->Prop) (v:Nat) (w:World) (h:MS w R m vn vd P) (hv:v < 4294967296) :
    Calls Tryz.prog 212 #[.pointer (some ⟨R,0,none⟩),.int .u64 v] w (z1z w R vd P (z1W .identified v m)):=by
 have hw:=zfE hv
 obtain⟨vi,vR,vP,hb,_⟩:=h.blk
 have c32:w.cell? ⟨R,32,none⟩=some (.int .u32 m.f.I):=hb.cell 32
 have f32:=hb.frozen 32
 obtain⟨m2,e2⟩:∃m2:PM,m2={ m with f:={ m.f with I:=(v:Nat) } }:=⟨_,rfl⟩
 have s2:=h.st.put m2 vn 32 (.int .u32 (v:Nat)) (fun _ _ _=>by rw[e2];rfl) (by rw[e2]) (by rw[e2]) (by rw[e2]) (by rw[e2])
 have kn:=z0c R m2 vn vd _ 2 .longOrNot _ _ _ _ s2.ms ⟨_,_,rfl,rfl,rfl⟩ (by omega) (by omega)
 have eE:z1W .identified v m=m2.num 2 .longOrNot:=by rw[e2];rfl
 rw[eE]
 have KN:=zH kn
 have S:=zH s2
 clear kn s2 eE h hb e2
 go_enter Tryz.func212,Tryz.ntmps212
 go_wp2_with fail
 refine KN.out.mono ?_
 rintro e w4 ⟨rfl,h4⟩
 have H4:=zH (zZ.from S.out h4)
 clear h4
 go_wp2
 go_end0
 exact⟨rfl,H4.out⟩
theorem z69 (R:Nat) (m:PM) (vn vd:Value) (P:Nat->Prop) (v:Nat) (w:World) (h:MS w R m vn vd P) :
    Calls Tryz.prog 221 #[.pointer (some ⟨R,0,none⟩),.int .u64 v] w (z1z w R vd P (z1W .longOrNot v m)):=by
 obtain⟨vi,vR,vP,hb,_⟩:=h.blk
 have c33:w.cell? ⟨R,33,none⟩=some (.bool m.f.X):=hb.cell 33
 have f33:=hb.frozen 33
 have c34:w.cell? ⟨R,34,none⟩=some (.bool m.f.R):=hb.cell 34
 have f34:=hb.frozen 34
 by_cases h3:v=3
 ·subst h3
  obtain⟨m2,e2⟩:∃m2:PM,m2={ m with f:={ m.f with X:=true } }:=⟨_,rfl⟩
  have s2:=h.st.put m2 vn 33 (.bool true) (fun _ _ _=>by rw[e2];rfl) (by rw[e2]) (by rw[e2]) (by rw[e2]) (by rw[e2])
  have kn:=z0c R m2 vn vd _ 18 .prolonged _ _ _ _ s2.ms ⟨_,_,rfl,rfl,rfl⟩ (by omega) (by omega)
  have eE:z1W .longOrNot 3 m=m2.num 18 .prolonged:=by rw[e2];rfl
  rw[eE]
  have KN:=zH kn
  have S:=zH s2
  clear kn s2 eE h hb e2
  go_enter Tryz.func221,Tryz.ntmps221
  go_wp2_with fail
  refine KN.out.mono ?_
  rintro e w4 ⟨rfl,h4⟩
  have H4:=zH (zZ.from S.out h4)
  clear h4
  go_wp2
  go_end0
  exact⟨rfl,H4.out⟩
 by_cases h1:v=1
 ·subst h1
  have kn:=z3x R m vn vd P 5 w h
  have eE:z1W .longOrNot 1 m=m.bad 5:=rfl
  rw[eE]
  have KN:=zH kn
  have S:=zH h.st
  clear kn eE h hb
  go_enter Tryz.func221,Tryz.ntmps221
  go_wp2_with fail
  refine KN.out.mono ?_
  rintro e w4 ⟨rfl,h4⟩
  have H4:=zH (zZ.from S.out h4)
  clear h4
  go_wp2
  go_end0
  exact⟨rfl,H4.out⟩
 by_cases h2:v=2
 ·have q3:((v:Int)==3)=false:=by rw[beq_eq_false_iff_ne];omega
  have q1:((v:Int)==1)=false:=by rw[beq_eq_false_iff_ne];omega
  have q2:((v:Int)==2)=true:=by rw[beq_iff_eq];omega
  have r2:(v==2)=true:=by rw[beq_iff_eq];omega
  obtain⟨m2,e2⟩:∃m2:PM,m2={ m with f:={ m.f with R:=true } }:=⟨_,rfl⟩
  have s2:=h.st.put m2 vn 34 (.bool true) (fun _ _ _=>by rw[e2];rfl) (by rw[e2]) (by rw[e2]) (by rw[e2]) (by rw[e2])
  have kn:=z0c R m2 vn vd _ 1 .classicOrNot _ _ _ _ s2.ms ⟨_,_,rfl,rfl,rfl⟩ (by omega) (by omega)
  have eE:z1W .longOrNot v m=m2.num 1 .classicOrNot:=by
   show(if v=3 then _ else if v=1 then _ else PM.num { m with f:={ m.f with R:=v==2 } } 1 .classicOrNot)=_
   rw[if_neg h3,if_neg h1,r2,e2]
  rw[eE]
  have KN:=zH kn
  have S:=zH s2
  clear kn s2 eE h hb e2 h3 h1 h2 r2
  go_enter Tryz.func221,Tryz.ntmps221
  go_wp2_with fail
  refine KN.out.mono ?_
  rintro e w4 ⟨rfl,h4⟩
  have H4:=zH (zZ.from S.out h4)
  clear h4
  go_wp2
  go_end0
  exact⟨rfl,H4.out⟩
 ·have q3:((v:Int)==3)=false:=by rw[beq_eq_false_iff_ne];omega
  have q1:((v:Int)==1)=false:=by rw[beq_eq_false_iff_ne];omega
  have q2:((v:Int)==2)=false:=by rw[beq_eq_false_iff_ne];omega
  have r2:(v==2)=false:=by rw[beq_eq_false_iff_ne];omega
  obtain⟨m2,e2⟩:∃m2:PM,m2={ m with f:={ m.f with R:=false } }:=⟨_,rfl⟩
  have s2:=h.st.put m2 vn 34 (.bool false) (fun _ _ _=>by rw[e2];rfl) (by rw[e2]) (by rw[e2]) (by rw[e2]) (by rw[e2])
  have kn:=z0c R m2 vn vd _ 1 .classicOrNot _ _ _ _ s2.ms ⟨_,_,rfl,rfl,rfl⟩ (by omega) (by omega)
  have eE:z1W .longOrNot v m=m2.num 1 .classicOrNot:=by
   show(if v=3 then _ else if v=1 then _ else PM.num { m with f:={ m.f with R:=v==2 } } 1 .classicOrNot)=_
   rw[if_neg h3,if_neg h1,r2,e2]
  rw[eE]
  have KN:=zH kn
  have S:=zH s2
  clear kn s2 eE h hb e2 h3 h1 h2 r2
  go_enter Tryz.func221,Tryz.ntmps221
  go_wp2_with fail
  refine KN.out.mono ?_
  rintro e w4 ⟨rfl,h4⟩
  have H4:=zH (zZ.from S.out h4)
  clear h4
  go_wp2
  go_end0
  exact⟨rfl,H4.out⟩
theorem z46 (R:Nat) (m:PM) (vn vd:Value) (P:Nat->Prop) (v:Nat) (w:World) (h:MS w R m vn vd P) :
    Calls Tryz.prog 224 #[.pointer (some ⟨R,0,none⟩),.int .u64 v] w (z1z w R vd P (z1W .classicOrNot v m)):=by
 obtain⟨vi,vR,vP,hb,_⟩:=h.blk
 have c34:w.cell? ⟨R,34,none⟩=some (.bool m.f.R):=hb.cell 34
 have f34:=hb.frozen 34
 by_cases h0:v=0
 ·subst h0
  have KN:=zH (z4o R m vn vd P w h)
  have eE:z1W .classicOrNot 0 m=z1f .classic m:=rfl
  rw[eE]
  have S:=zH h.st
  clear eE h hb
  go_enter Tryz.func224,Tryz.ntmps224
  go_wp2_with fail
  refine KN.out.mono ?_
  rintro e w4 ⟨rfl,h4⟩
  have H4:=zH (zZ.from S.out h4)
  clear h4
  go_wp2
  go_end0
  exact⟨rfl,H4.out⟩
 have q0:((v:Int)==0)=false:=by rw[beq_eq_false_iff_ne];omega
 cases hr:m.f.R with
 | true =>
   rw[hr]at c34
   have KN:=zH (z3x R m vn vd P 5 w h)
   have eE:z1W .classicOrNot v m=m.bad 5:=by
    show(if v=0 then _ else if m.f.R=true then m.bad 5 else m.num 1 .fdOrXL)=_
    rw[if_neg h0,hr]
    rfl
   rw[eE]
   have S:=zH h.st
   clear eE h hb hr h0
   go_enter Tryz.func224,Tryz.ntmps224
   go_wp2_with fail
   refine KN.out.mono ?_
   rintro e w4 ⟨rfl,h4⟩
   have H4:=zH (zZ.from S.out h4)
   clear h4
   go_wp2
   go_end0
   exact⟨rfl,H4.out⟩
 | false =>
   rw[hr]at c34
   have KN:=zH (z0c R m vn vd _ 1 .fdOrXL _ _ _ _ h ⟨_,_,rfl,rfl,rfl⟩ (by omega) (by omega))
   have eE:z1W .classicOrNot v m=m.num 1 .fdOrXL:=by
    show(if v=0 then _ else if m.f.R=true then m.bad 5 else m.num 1 .fdOrXL)=_
    rw[if_neg h0,hr]
    rfl
   rw[eE]
   have S:=zH h.st
   clear eE h hb hr h0
   go_enter Tryz.func224,Tryz.ntmps224
   go_wp2_with fail
   refine KN.out.mono ?_
   rintro e w4 ⟨rfl,h4⟩
   have H4:=zH (zZ.from S.out h4)
   clear h4
   go_wp2
   go_end0
   exact⟨rfl,H4.out⟩
theorem z9N (R:Nat) (m:PM) (vn vd:Value) (P:Nat->Prop) (v:Nat) (w:World) (h:MS w R m vn vd P) :
    Calls Tryz.prog 228 #[.pointer (some ⟨R,0,none⟩),.int .u64 v] w (z1z w R vd P (z1W .fdOrXL v m)):=by
 obtain⟨vi,vR,vP,hb,_⟩:=h.blk
 have c0:w.cell? ⟨R,0,none⟩=some (.bool m.kn):=hb.cell 0
 have f0:=hb.frozen 0
 by_cases h0:v=0
 ·subst h0
  have KN:=zH (zin R m vn vd P w h)
  have eE:z1W .fdOrXL 0 m=m.fd:=rfl
  rw[eE]
  have S:=zH h.st
  clear eE h hb
  go_enter Tryz.func228,Tryz.ntmps228
  go_wp2_with fail
  refine KN.out.mono ?_
  rintro e w4 ⟨rfl,h4⟩
  have H4:=zH (zZ.from S.out h4)
  clear h4
  go_wp2
  go_end0
  exact⟨rfl,H4.out⟩
 have q0:((v:Int)==0)=false:=by rw[beq_eq_false_iff_ne];omega
 cases hr:m.kn with
 | true =>
   rw[hr]at c0
   have eE:z1W .fdOrXL v m=m.must [0] .headed:=by
    show(if v=0 then _ else if m.kn=true then m.must [0] .headed else m.fin ⟨4,0,noF,[]⟩)=_
    rw[if_neg h0,hr]
    rfl
   rw[eE]
   obtain⟨s9,b9,d9⟩:=h.st.bytes [0] #[.int .u8 0] rfl 1 rfl (by simp) (by simp)
   have KN:=zH (z2t R m vn vd _ .headed _ _ _ _ 1 [0] _ s9.ms ⟨_,_,rfl,⟨rfl,rfl⟩,trivial⟩ b9 d9 (by simp))
   have S:=zH s9
   clear eE h hb hr h0 s9 b9 d9
   go_enter Tryz.func228,Tryz.ntmps228
   go_wp2_with fail
   refine KN.out.mono ?_
   rintro e w4 ⟨rfl,h4⟩
   have H4:=zH (zZ.from S.out h4)
   clear h4
   go_wp2
   go_end0
   exact⟨rfl,H4.out⟩
 | false =>
   rw[hr]at c0
   have eE:z1W .fdOrXL v m=m.fin ⟨4,0,noF,[]⟩:=by
    show(if v=0 then _ else if m.kn=true then m.must [0] .headed else m.fin ⟨4,0,noF,[]⟩)=_
    rw[if_neg h0,hr]
    rfl
   rw[eE]
   have he:=z9C R m vn vd P ⟨4,0,noF,[]⟩ (.slice none 0 0) w h ⟨none,0,rfl,Bs.nil w,by simp⟩
   simp only[z1V,noF]at he
   have KN:=zH he
   have S:=zH h.st
   clear eE h hb hr h0 he
   go_enter Tryz.func228,Tryz.ntmps228
   go_wp2_with fail
   refine KN.out.mono ?_
   rintro e w4 ⟨rfl,h4⟩
   have H4:=zH (zZ.from S.out h4)
   clear h4
   go_wp2
   go_end0
   exact⟨rfl,H4.out⟩
theorem zek (R:Nat) (m:PM) (vn vd:Value) (P:Nat->Prop) (b d n:Nat) (v:Nat) (w:World) (h:MS w R m vn vd P) (hx:z48 w P R b) (hy:zfQ w P d n) (hn:n<=2048) :
    Calls Tryz.prog 261 #[.int .u64 v,.pointer (some ⟨b,0,none⟩),.pointer (some ⟨d,0,none⟩)] w (z1z w R vd P (z1W (.vcid n) v m)):=by
 have hw:=zip v
 have cb:w.cell? ⟨b,0,none⟩=some (.pointer (some ⟨R,0,none⟩)):=hx.2.cell 0
 have hbR:b≠R:=fun e=>h.nP b hx.1 (.inl e)
 have cd:w.cell? ⟨d,0,none⟩=some (.int .i64 (n:Nat)):=hy.2.cell 0
 have hdR:d≠R:=fun e=>h.nP d hy.1 (.inl e)
 obtain⟨vi,vR,vP,hb,_⟩:=h.blk
 have c39:w.cell? ⟨R,39,none⟩=some (.int .u8 m.f.V):=hb.cell 39
 have f39:=hb.frozen 39
 obtain⟨m2,e2⟩:∃m2:PM,m2={ m with f:={ m.f with V:=(v%256:Nat) } }:=⟨_,rfl⟩
 have s2:=h.st.put m2 vn 39 (.int .u8 ((v%256:Nat):Int)) (fun _ _ _=>by rw[e2];rfl) (by rw[e2]) (by rw[e2]) (by rw[e2]) (by rw[e2])
 have x2:=hx.set h.st 39 (.int .u8 ((v%256:Nat):Int))
 have y2:=hy.set h.st 39 (.int .u8 ((v%256:Nat):Int))
 have kn:=z0c R m2 vn vd _ 32 (.af n) _ _ _ _ s2.ms ⟨_,_,rfl,rfl,hn,b,d,rfl,x2,y2⟩ (by omega) (by omega)
 have eE:z1W (.vcid n) v m=m2.num 32 (.af n):=by rw[e2];rfl
 rw[eE]
 have KN:=zH kn
 have S:=zH s2
 generalize ((v%256:Nat):Int)=z at *
 clear kn s2 eE h hb e2 x2 y2 hx hy
 go_enter Tryz.func261,Tryz.ntmps261
 go_wp2_with fail
 refine KN.out.mono ?_
 rintro e w4 ⟨rfl,h4⟩
 have H4:=zH (zZ.from S.out h4)
 clear h4
 go_wp2
 go_end0
 exact⟨rfl,H4.out⟩
theorem ziO (R:Nat) (m:PM) (vn vd:Value) (P:Nat->Prop) (b d n:Nat) (v:Nat) (w:World) (h:MS w R m vn vd P) (hB:z0i w) (hx:z48 w P R b) (hy:zfQ w P d n) (hn:n<=2048) (hs:m.stuffs<=100000) (hv:v < 4294967296) :
    Calls Tryz.prog 262 #[.int .u64 v,.pointer (some ⟨b,0,none⟩),.pointer (some ⟨d,0,none⟩)] w (z1z w R vd P (z1W (.af n) v m)):=by
 have hw:=zfE hv
 have cb:w.cell? ⟨b,0,none⟩=some (.pointer (some ⟨R,0,none⟩)):=hx.2.cell 0
 have hbR:b≠R:=fun e=>h.nP b hx.1 (.inl e)
 have cd:w.cell? ⟨d,0,none⟩=some (.int .i64 (n:Nat)):=hy.2.cell 0
 have hdR:d≠R:=fun e=>h.nP d hy.1 (.inl e)
 obtain⟨vi,vR,vP,hb,_⟩:=h.blk
 have c40:w.cell? ⟨R,40,none⟩=some (.int .u32 m.f.A):=hb.cell 40
 have f40:=hb.frozen 40
 obtain⟨m2,e2⟩:∃m2:PM,m2={ m with f:={ m.f with A:=(v:Nat) } }:=⟨_,rfl⟩
 have s2:=h.st.put m2 vn 40 (.int .u32 (v:Nat)) (fun _ _ _=>by rw[e2];rfl) (by rw[e2]) (by rw[e2]) (by rw[e2]) (by rw[e2])
 have x2:=hx.set h.st 40 (.int .u32 (v:Nat))
 have hst:m2.stuffs<=100000:=by rw[e2];exact hs
 have kn:=z3S R m2 vn vd _ n .sumXl _ _ _ _ s2.ms (s2.both h hB) ⟨_,_,rfl,⟨rfl,b,rfl,x2⟩,trivial⟩ hn hst
 have eE:z1W (.af n) v m=m2.data n .sumXl:=by rw[e2];rfl
 rw[eE]
 have KN:=zH kn
 have S:=zH s2
 clear kn s2 eE h hb e2 x2 hx hy hB hst
 go_enter Tryz.func262,Tryz.ntmps262
 go_wp2_with fail
 refine KN.out.mono ?_
 rintro e w4 ⟨rfl,h4⟩
 have H4:=zH (zZ.from S.out h4)
 clear h4
 go_wp2
 go_end0
 exact⟨rfl,H4.out⟩
theorem zgj (R:Nat) (m:PM) (vn vd:Value) (P:Nat->Prop) (b:Nat) (v:Nat) (w:World) (h:MS w R m vn vd P) (hx:z48 w P R b) :
    Calls Tryz.prog 254 #[.int .u64 v,.pointer (some ⟨b,0,none⟩)] w (z1z w R vd P (z1W .sdt v m)):=by
 have hw:=zip v
 have cb:w.cell? ⟨b,0,none⟩=some (.pointer (some ⟨R,0,none⟩)):=hx.2.cell 0
 have hbR:b≠R:=fun e=>h.nP b hx.1 (.inl e)
 obtain⟨vi,vR,vP,hb,_⟩:=h.blk
 have c38:w.cell? ⟨R,38,none⟩=some (.int .u8 m.f.D):=hb.cell 38
 have f38:=hb.frozen 38
 obtain⟨m2,e2⟩:∃m2:PM,m2={ m with f:={ m.f with D:=(v%256:Nat) } }:=⟨_,rfl⟩
 have s2:=h.st.put m2 vn 38 (.int .u8 ((v%256:Nat):Int)) (fun _ _ _=>by rw[e2];rfl) (by rw[e2]) (by rw[e2]) (by rw[e2]) (by rw[e2])
 have X2:=zH (hx.set h.st 38 (.int .u8 ((v%256:Nat):Int)))
 have eE:z1W .sdt v m=m2.num 1 (.flag .sec .xlSize):=by rw[e2];rfl
 rw[eE]
 have S2:=zH s2
 generalize ((v%256:Nat):Int)=z at *
 clear s2 eE h hb e2 hx
 go_enter Tryz.func254,Tryz.ntmps254
 go_wp2
 generalize w.setCell ⟨R,38,none⟩ (.int .u8 z)=w2 at *
 clear c38 f38 cb
 have hR2:R < w2.heap.size:=S2.out.ms.ltR
 have cb:w2.cell? ⟨b,0,none⟩=some (.pointer (some ⟨R,0,none⟩)):=X2.out.2.cell 0
 have HF:=zH (z44 R m2 vn vd _ .sec .xlSize _ _ _ w2.drew (S2.out.ms.nb (Nb.drewN w2 1)) ⟨_,_,rfl,⟨rfl,_,rfl,X2.out.more (show Nb w2 w2.drew from Nb.drewN w2 1) (fun _ h=>h)⟩,trivial⟩)
 have S:=zH (S2.out.nb (show Nb w2 w2.drew from Nb.drewN w2 1))
 go_region_with (
  (go_at_call 225
   refine HF.out.mono ?_
   rintro e w8 ⟨rfl,h8⟩
   have H8:=zH (zZ.from S.out h8)
   clear h8))
 all_goals go_end0
 all_goals exact⟨rfl,H8.out⟩
theorem zio(m:PM)(R:Nat)(vn vd vi vR vP:Value)(f:Fk)(b:Bool):(m.cs R vn vd vi vR vP).setIfInBounds f.off (.bool b)=({ m with f:=zl9 f b m.f }:PM).cs R vn vd vi vR vP:=by cases f<;>rfl
theorem zfo(m:PM)(R:Nat)(vn vd vi vR vP:Value)(f:Fk):∃b,(m.cs R vn vd vi vR vP)[f.off]? = some (.bool b):=by cases f<;>exact⟨_,rfl⟩
theorem zcr (R:Nat) (m:PM) (vn vd:Value) (P:Nat->Prop) (f:Fk) (k:K0) (b d:Nat) (vk:Value) (v:Nat) (w:World) (h:MS w R m vn vd P) (hB:z0i w) (hx:Box w P b (.pointer (some ⟨R,f.off,none⟩)) 274) (hy:Box w P d vk 1) (hk:K0V w P R k vk) (hs:m.stuffs<=100000) :
    Calls Tryz.prog 229 #[.int .u64 v,.pointer (some ⟨b,0,none⟩),.pointer (some ⟨d,0,none⟩)] w (z1z w R vd P (z1W (.flag f k) v m)):=by
 obtain⟨fi,ca,rfl,hA,hok⟩:=hk
 obtain⟨vi,vR,vP,hb,_⟩:=h.blk
 obtain⟨b0,hb0⟩:=zfo m R vn vd vi vR vP f
 have cb:w.cell? ⟨b,0,none⟩=some (.pointer (some ⟨R,f.off,none⟩)):=hx.2.cell 0
 have cd:w.cell? ⟨d,0,none⟩=some (.func (.func k.F) fi ca):=hy.2.cell 0
 have co:w.cell? ⟨R,f.off,none⟩=some (.bool b0):=(hb.cell _).trans hb0
 have fo:=hb.frozen f.off
 have hbR:b≠R:=fun e=>h.nP b hx.1 (.inl e)
 have hdR:d≠R:=fun e=>h.nP d hy.1 (.inl e)
 obtain⟨m2,e2⟩:∃m2:PM,m2={ m with f:=zl9 f (v==1) m.f }:=⟨_,rfl⟩
 have s2:=h.st.put m2 vn f.off (.bool (v==1)) (fun _ _ _=>by rw[e2];exact zio _ _ _ _ _ _ _ _ _) (by rw[e2]) (by rw[e2]) (by rw[e2]) (by rw[e2])
 have kv:K0V (w.setCell ⟨R,f.off,none⟩ (.bool (v==1))) P R k (.func (.func k.F) fi ca):=K0V.keep ⟨fi,ca,rfl,hA,hok⟩ (h.st.smR _ _) (fun _ h=>h)
 have hst:m2.stuffs<=100000:=by rw[e2];exact hs
 have kn:=z3z k R m2 vn vd P _ _ _ _ s2.ms (s2.both h hB) kv hst
 have eE:z1W (.flag f k) v m=z1f k m2:=by rw[e2];rfl
 rw[eE]
 have hcf:=k.enters
 have hq:((v:Int)==1)=(v==1):=by
  by_cases h1:v=1
  ·subst h1;rfl
  ·rw[beq_eq_false_iff_ne.2 h1,beq_eq_false_iff_ne];omega
 have KN:=zH kn
 have S:=zH s2
 generalize k.F=K at *
 generalize f.off=o at *
 generalize (v==1)=q at *
 clear kn s2 eE h hb e2 hst kv hA hok hx hy hb0 hB
 go_enter Tryz.func229,Tryz.ntmps229
 go_wp2_with fail
 refine KN.out.mono ?_
 rintro e w4 ⟨rfl,h4⟩
 have H4:=zH (zZ.from S.out h4)
 clear h4
 go_wp2
 go_end0
 exact⟨rfl,H4.out⟩
theorem z67 (R:Nat) (m:PM) (vn vd:Value) (P:Nat->Prop) (v:Nat) (w:World) (h:MS w R m vn vd P) (hv:v < 4294967296) :
    Calls Tryz.prog 223 #[.pointer (some ⟨R,0,none⟩),.int .u64 v] w (z1z w R vd P (z1W .prolonged v m)):=by
 have hw:=zfE hv
 obtain⟨s1,b1⟩:=h.st.box (.pointer (some ⟨R,0,none⟩)) 109
 obtain⟨vi,vR,vP,hb,_⟩:=s1.ms.blk
 have S1:=zH s1
 have B1:=zH b1
 have hbR:w.heap.size≠R:=by have:=h.ltR;omega
 clear h s1 b1
 go_enter Tryz.func223,Tryz.ntmps223
 go_wp2
 generalize w.alloc (.cells #[.pointer (some ⟨R,0,none⟩)] 109)=w2 at *
 have hR2:R < w2.heap.size:=S1.out.ms.ltR
 have hb2:w.heap.size < w2.heap.size:=B1.out.2.lt
 have c32:w2.cell? ⟨R,32,none⟩=some (.int .u32 m.f.I):=hb.cell 32
 have f32:=hb.frozen 32
 have cb:w2.cell? ⟨w.heap.size,0,none⟩=some (.pointer (some ⟨R,0,none⟩)):=B1.out.2.cell 0
 clear hb
 go_region
 obtain⟨m2,e2⟩:∃m2:PM,m2={ m with f:={ m.f with I:=z8j m.f.I v } }:=⟨_,rfl⟩
 have s2:=S1.out.put m2 vn 32 (.int .u32 (z8j m.f.I v)) (fun _ _ _=>by rw[e2];rfl) (by rw[e2]) (by rw[e2]) (by rw[e2]) (by rw[e2])
 have b2:=B1.out.set S1.out 32 (.int .u32 (z8j m.f.I v))
 have S2:=zH (s2.nb (show Nb _ (World.drew _)from Nb.drewN _ 1))
 have B2:=zH (b2.more (show Nb _ (World.drew _)from Nb.drewN _ 1) (fun _ h=>h))
 have EE:=zH (show z1W .prolonged v m=m2.num 1 (.flag .rtr .heads) by rw[e2];rfl)
 clear s2 b2 e2 c32 f32 cb hR2 hb2
 unfold z8j at S2 B2
 go_wp2
 generalize (w2.setCell ⟨R,32,none⟩ (.int .u32 (bits BinOp.or IntKind.u32 (m.f.I*262144%4294967296) v))).drew=w3 at *
 have hR3:R < w3.heap.size:=S2.out.ms.ltR
 have hb3:w.heap.size < w3.heap.size:=B2.out.2.lt
 have cb:w3.cell? ⟨w.heap.size,0,none⟩=some (.pointer (some ⟨R,0,none⟩)):=B2.out.2.cell 0
 have HF:=zH (z44 R m2 vn vd _ .rtr .heads _ _ _ w3.drew (S2.out.ms.nb (Nb.drewN w3 1)) ⟨_,_,rfl,⟨rfl,_,rfl,B2.out.more (show Nb w3 w3.drew from Nb.drewN w3 1) (fun _ h=>h)⟩,trivial⟩)
 have S:=zH (S2.out.nb (show Nb w3 w3.drew from Nb.drewN w3 1))
 go_region_with (
  (go_at_call 225
   refine HF.out.mono ?_
   rintro e w8 ⟨rfl,h8⟩
   have H8:=zH (zZ.from S.out h8)
   clear h8))
 all_goals go_end0
 all_goals exact⟨rfl,by rw[EE.out];exact H8.out⟩
theorem zah (R:Nat) (m:PM) (vn vd:Value) (P:Nat->Prop) (want:Nat) (k:K0) (b d f:Nat) (vk:Value) (v:Nat) (w:World) (h:MS w R m vn vd P) (hB:z0i w) (hx:z48 w P R b) (hy:Box w P d (.int .u64 (want:Nat)) 73) (hz:Box w P f vk 1) (hk:K0V w P R k vk) (hs:m.stuffs<=100000) :
    Calls Tryz.prog 248 #[.int .u64 v,.pointer (some ⟨b,0,none⟩),.pointer (some ⟨d,0,none⟩),.pointer (some ⟨f,0,none⟩)] w (z1z w R vd P (z1W (.check want k) v m)):=by
 obtain⟨fi,ca,rfl,hA,hok⟩:=hk
 obtain⟨vi,vR,vP,hb,_⟩:=h.blk
 have cb:w.cell? ⟨b,0,none⟩=some (.pointer (some ⟨R,0,none⟩)):=hx.2.cell 0
 have cd:w.cell? ⟨d,0,none⟩=some (.int .u64 (want:Nat)):=hy.2.cell 0
 have cf:w.cell? ⟨f,0,none⟩=some (.func (.func k.F) fi ca):=hz.2.cell 0
 have c30:w.cell? ⟨R,30,none⟩=some (.bool m.wrong):=hb.cell 30
 have f30:=hb.frozen 30
 have hbR:b≠R:=fun e=>h.nP b hx.1 (.inl e)
 have hdR:d≠R:=fun e=>h.nP d hy.1 (.inl e)
 have hfR:f≠R:=fun e=>h.nP f hz.1 (.inl e)
 have hcf:=k.enters
 have key:∀q:Bool,(m.wrong||v != want)=q->∃m2:PM,z1W (.check want k) v m=z1f k m2/\Hid (St w R vd P m2 vn vd P (w.setCell ⟨R,30,none⟩ (.bool q)).drew)/\Hid (Calls Tryz.prog k.F (fi++ca) (w.setCell ⟨R,30,none⟩ (.bool q)).drew (z1z (w.setCell ⟨R,30,none⟩ (.bool q)).drew R vd P (z1f k m2))):=by
  intro q hq
  obtain⟨m2,e2⟩:∃m2:PM,m2={ m with wrong:=q }:=⟨_,rfl⟩
  have s2:=(h.st.put m2 vn 30 (.bool q) (fun _ _ _=>by rw[e2];rfl) (by rw[e2]) (by rw[e2]) (by rw[e2]) (by rw[e2])).nb (show Nb _ (World.drew _)from Nb.drewN _ 1)
  have kv:K0V (w.setCell ⟨R,30,none⟩ (.bool q)).drew P R k (.func (.func k.F) fi ca):=(K0V.keep ⟨fi,ca,rfl,hA,hok⟩ (h.st.smR 30 (.bool q)) (fun _ h=>h)).more (show Nb _ (World.drew _)from Nb.drewN _ 1) (fun _ h=>h)
  exact⟨m2,by rw[e2,<- hq];rfl,zH s2,zH (z3z k R m2 vn vd P _ _ _ _ s2.ms (s2.both h hB) kv (by rw[e2];exact hs))⟩
 generalize k.F=K at *
 have KEY:=zH key
 clear key hA hok hx hy hz hB h hb
 cases hw:m.wrong with
 | true =>
   rw[hw]at c30
   obtain⟨m2,eE,S,KN⟩:=KEY.out true (by rw[hw];rfl)
   rw[eE]
   clear eE KEY hw
   go_enter Tryz.func248,Tryz.ntmps248
   go_wp2
   go_region
   all_goals go_wp2_with fail
   all_goals (refine KN.out.mono ?_;rintro e w4 ⟨rfl,h4⟩;have H4:=zH (zZ.from S.out h4);clear h4;go_wp2;go_end0;exact⟨rfl,H4.out⟩)
 | false =>
   rw[hw]at c30
   by_cases hq:v=want
   ·subst hq
    have q0:((v:Int) != (v:Int))=false:=by simp
    obtain⟨m2,eE,S,KN⟩:=KEY.out false (by rw[hw];simp)
    rw[eE]
    clear eE KEY hw
    go_enter Tryz.func248,Tryz.ntmps248
    go_wp2
    go_region
    all_goals go_wp2_with fail
    all_goals (refine KN.out.mono ?_;rintro e w4 ⟨rfl,h4⟩;have H4:=zH (zZ.from S.out h4);clear h4;go_wp2;go_end0;exact⟨rfl,H4.out⟩)
   ·have q0:((v:Int) != (want:Int))=true:=by rw[bne_iff_ne];omega
    obtain⟨m2,eE,S,KN⟩:=KEY.out true (by rw[hw];simp[hq])
    rw[eE]
    clear eE KEY hw hq
    go_enter Tryz.func248,Tryz.ntmps248
    go_wp2
    go_region
    all_goals go_wp2_with fail
    all_goals (refine KN.out.mono ?_;rintro e w4 ⟨rfl,h4⟩;have H4:=zH (zZ.from S.out h4);clear h4;go_wp2;go_end0;exact⟨rfl,H4.out⟩)
end Go.Proofs.YtplbmlpdefpplaaGreatDoor
