/- Contracts of the scanner's parts, and more. Conditions: as each says. -/
import Derived.Test.YtplbmlpdefpplaaGreatDoorScH
import Derived.Test.YtplbmlpdefpplaaGreatDoorClaR
set_option maxHeartbeats 1600000
set_option maxRecDepth 100000
namespace Go.Proofs.YtplbmlpdefpplaaGreatDoor
set_option linter.unusedVariables false
set_option linter.unusedSimpArgs false
open Go.RowKit
variable {ks:List Nat} {R c i j k:Nat} {re:Nat->Nat} {P P' P0:Nat->Prop} {t:TypeId} {a v vd vd0 vn:Value} {w w' w0:World}
theorem Blk.c13{u0 u1 u2 u3 u4 u5 u6 u7 u8 u9 u10 u11 u12:Value}(h:Blk w R #[u0,u1,u2,u3,u4,u5,u6,u7,u8,u9,u10,u11,u12] t):w.cell? ⟨R,0,none⟩=some u0/\w.cell? ⟨R,1,none⟩=some u1/\w.cell? ⟨R,2,none⟩=some u2/\w.cell? ⟨R,3,none⟩=some u3/\w.cell? ⟨R,4,none⟩=some u4/\w.cell? ⟨R,5,none⟩=some u5/\w.cell? ⟨R,6,none⟩=some u6/\w.cell? ⟨R,7,none⟩=some u7/\w.cell? ⟨R,8,none⟩=some u8/\w.cell? ⟨R,9,none⟩=some u9/\w.cell? ⟨R,10,none⟩=some u10/\w.cell? ⟨R,11,none⟩=some u11/\w.cell? ⟨R,12,none⟩=some u12 :=
 ⟨h.cell 0,h.cell 1,h.cell 2,h.cell 3,h.cell 4,h.cell 5,h.cell 6,h.cell 7,h.cell 8,h.cell 9,h.cell 10,h.cell 11,h.cell 12⟩
theorem z0c (R:Nat) (m:PM) (vn vd:Value) (P:Nat->Prop) (size:Nat) (k:KN) (K:Nat) (fi ca:Array Value) (w:World) (h:MS w R m vn vd P) (hk:KNV w P R k (.func (.func K) fi ca)) (h0:0 < size) (h32:size<=32) :
    Calls Tryz.prog 211 #[.pointer (some ⟨R,0,none⟩),.int .i64 size,.func (.func K) fi ca] w (z1z w R vd P (m.num size k)):=by
 obtain⟨vi,vR,vP,hb,_⟩:=h.blk
 have hb3:=hb.nb (((Nb.rfl.al (.cells #[.int .i64 size] 3)).al (.cells #[.func (.func K) fi ca] 268)).al (.cells #[.int .u64 0] 73))
 have f29:=hb3.frozen 29
 have c29:_=some vn:=hb3.cell 29
 have hR:=h.ltR
 have H:=zH h
 have HK:=zH hk
 clear h hk hb hb3
 go_enter Tryz.func211,Tryz.ntmps211
 go_wp2
 go_end0
 have s1:=H.out.st.al (.cells #[.int .i64 (size:Nat)] 3)
 have hsz1:(w.alloc (.cells #[.int .i64 (size:Nat)] 3)).heap.size=w.heap.size+1:=by rw[World.size_alloc]
 obtain⟨s2,b2⟩:=s1.box (.func (.func K) fi ca) 268
 rw[hsz1]at s2 b2
 have bs:=Blk.new w #[.int .i64 (size:Nat)] 3
 have n1:Nb w (w.alloc (.cells #[.int .i64 (size:Nat)] 3)):=Nb.rfl.al _
 have kn:=HK.out
 generalize w.alloc (.cells #[.int .i64 (size:Nat)] 3)=w1 at *
 have n2:Nb w1 (w1.alloc (.cells #[.func (.func K) fi ca] 268)):=Nb.rfl.al _
 have hsz2:(w1.alloc (.cells #[.func (.func K) fi ca] 268)).heap.size=w.heap.size+1+1:=by rw[World.size_alloc,hsz1]
 generalize w1.alloc (.cells #[.func (.func K) fi ca] 268)=w2 at *
 have s3:=s2.al (.cells #[.int .u64 0] 73)
 have bn:=Blk.new w2 #[.int .u64 0] 73
 have n3:Nb w2 (w2.alloc (.cells #[.int .u64 0] 73)):=Nb.rfl.al _
 have hsz3:(w2.alloc (.cells #[.int .u64 0] 73)).heap.size=w.heap.size+1+1+1:=by rw[World.size_alloc,hsz2]
 rw[hsz2]at bn
 generalize w2.alloc (.cells #[.int .u64 0] 73)=w3 at *
 refine⟨rfl,_,fun b=>b=w.heap.size+1+1\/b=w.heap.size,vd,_,s3.put (m.num size k) _ 29 _ (fun _ _ _=>rfl) rfl rfl rfl rfl,?_,?_⟩
 ·have nR:R≠w.heap.size:=by omega
  have k4:Kp (fun b=>b=R) w3 (w3.setCell ⟨R,29,none⟩ (.func (.func 220) #[] #[.pointer (some ⟨w.heap.size+1+1,0,none⟩),.pointer (some ⟨w.heap.size,0,none⟩),.pointer (some ⟨w.heap.size+1,0,none⟩)])):=Kp.set (F:=fun b=>b=R) rfl
  have hP:∀b,P b\/b=w.heap.size+1->b≠R:=by
   rintro b (hb | rfl)
   ·intro e;exact H.out.nP b hb (.inl e)
   ·omega
  have hlt:=H.out.lt
  refine⟨_,_,_,_,rfl,(bn.keep k4 (by omega)),((bs.nb (n2.tr n3)).keep k4 (by omega)),(b2.keep (Sm.nb n3) (fun _ h=>h)).keep (k4.sm hP) (fun _ h=>h),?_,⟨.inl rfl,.inr rfl⟩,⟨?_,?_⟩,h0,h32,?_⟩
  ·exact(kn.keep (Sm.nb (n1.tr (n2.tr n3))) (fun _ h => .inl h)).keep (k4.sm hP) (fun _ h=>h)
  ·rintro(hb | hb)
   ·have:=hlt _ hb;omega
   ·omega
  ·rintro(hb | hb)
   ·have:=hlt _ hb;omega
   ·omega
  ·exact Nat.two_pow_pos _
 ·rintro b (rfl | rfl)
  ·exact⟨.inr (by omega),by simp[World.setCell,hsz3]⟩
  ·exact⟨.inr (Nat.le_refl _),by simp[World.setCell,hsz3];omega⟩
theorem z2t (R:Nat) (m:PM) (vn vd:Value) (P:Nat->Prop) (k:K0) (K:Nat) (fi ca:Array Value) (a:Option Addr) (c:Nat) (want:List Nat) (w:World) (h:MS w R m vn vd P) (hk:K0V w P R k (.func (.func K) fi ca)) (hw:Bs w a c want) (hd:∀b o t,a=some ⟨b,o,t⟩->P b) (h0:want≠[]) :
    Calls Tryz.prog 199 #[.pointer (some ⟨R,0,none⟩),.func (.func K) fi ca,.slice a want.length c] w (z1z w R vd P (m.must want k)):=by
 obtain⟨vi,vR,vP,hb,_⟩:=h.blk
 have hb3:=hb.nb (((Nb.rfl.al (.cells #[.pointer (some ⟨R,0,none⟩)] 109)).al (.cells #[.func (.func K) fi ca] 1)).al (.cells #[.slice a want.length c] 35))
 have f29:=hb3.frozen 29
 have c29:_=some vn:=hb3.cell 29
 have hR:=h.ltR
 have H:=zH h
 have HK:=zH hk
 have HW:=zH hw
 have HD:=zH hd
 have H0:=zH h0
 clear h hk hb hb3 hw hd h0
 go_enter Tryz.func199,Tryz.ntmps199
 go_wp2
 go_end0
 clear f29 c29
 obtain⟨s1,b1⟩:=H.out.st.box (.pointer (some ⟨R,0,none⟩)) 109
 have hsz1:(w.alloc (.cells #[.pointer (some ⟨R,0,none⟩)] 109)).heap.size=w.heap.size+1:=by rw[World.size_alloc]
 have n1:Nb w (w.alloc (.cells #[.pointer (some ⟨R,0,none⟩)] 109)):=Nb.rfl.al _
 generalize w.alloc (.cells #[.pointer (some ⟨R,0,none⟩)] 109)=w1 at *
 obtain⟨s2,b2⟩:=s1.box (.func (.func K) fi ca) 1
 rw[hsz1]at s2 b2
 have n2:Nb w1 (w1.alloc (.cells #[.func (.func K) fi ca] 1)):=Nb.rfl.al _
 have hsz2:(w1.alloc (.cells #[.func (.func K) fi ca] 1)).heap.size=w.heap.size+1+1:=by rw[World.size_alloc,hsz1]
 generalize w1.alloc (.cells #[.func (.func K) fi ca] 1)=w2 at *
 have s3:=s2.al (.cells #[.slice a want.length c] 35)
 have bn:=Blk.new w2 #[.slice a want.length c] 35
 have n3:Nb w2 (w2.alloc (.cells #[.slice a want.length c] 35)):=Nb.rfl.al _
 have hsz3:(w2.alloc (.cells #[.slice a want.length c] 35)).heap.size=w.heap.size+1+1+1:=by rw[World.size_alloc,hsz2]
 rw[hsz2]at bn
 generalize w2.alloc (.cells #[.slice a want.length c] 35)=w3 at *
 refine⟨rfl,_,fun b=>b=w.heap.size+1+1,vd,_,s3.put (m.must want k) _ 29 _ (fun _ _ _=>rfl) rfl rfl rfl rfl,?_,?_⟩
 ·have k4:Kp (fun b=>b=R) w3 (w3.setCell ⟨R,29,none⟩ (.func (.func 210) #[] #[.pointer (some ⟨w.heap.size+1+1,0,none⟩),.pointer (some ⟨w.heap.size,0,none⟩),.pointer (some ⟨w.heap.size+1,0,none⟩)])):=Kp.set (F:=fun b=>b=R) rfl
  have hP:∀b,(P b\/b=w.heap.size)\/b=w.heap.size+1->b≠R:=by
   rintro b ((hb | rfl) | rfl)
   ·intro e;exact H.out.nP b hb (.inl e)
   ·omega
   ·omega
  have hlt:=H.out.lt
  have sm:=k4.sm hP
  refine⟨_,_,_,_,_,_,rfl,(bn.keep k4 (by omega)),(b1.keep (Sm.nb (n2.tr n3)) (fun _ h => .inl h)).keep sm (fun _ h=>h),(b2.keep (Sm.nb n3) (fun _ h=>h)).keep sm (fun _ h=>h),?_,rfl,?_,⟨?_,fun b o t e => .inl (.inl (HD.out b o t e))⟩,H0.out⟩
  ·exact(HK.out.keep (Sm.nb (n1.tr (n2.tr n3))) (fun _ h => .inl (.inl h))).keep sm (fun _ h=>h)
  ·rintro((hb | hb) | hb)
   ·have:=hlt _ hb;omega
   ·omega
   ·omega
  ·exact(HW.out.below (n1.tr (n2.tr n3))).sm sm (fun b o t e => .inl (.inl (HD.out b o t e)))
 ·rintro b rfl
  exact⟨.inr (by omega),by simp[World.setCell,hsz3]⟩
theorem Blk.row{cs:Array Value}(h:Blk w R cs t)(cs':Array Value):Blk (w.setRow R cs') R cs' t:=by
 unfold Blk at *
 simp[World.setRow,Array.getElem?_modify,h]
theorem Kp.row(w:World)(R:Nat)(cs':Array Value):Kp (fun b=>b=R) w (w.setRow R cs') :=
 ⟨setRow_os w R cs',setRow_tape w R cs',setRow_output w R cs',by rw[setRow_size];exact Nat.le_refl _,fun k _ hn=>setRow_other w R k cs' hn⟩
def PM.cs0(m:PM)(vn vd vi vR vP:Value):Array Value:=#[.bool m.kn,.int .i64 m.seen,.int .i64 m.is.k,.int .i64 m.is.e,.int .i64 m.is.f.K,.int .u32 m.is.f.I,.bool m.is.f.X,.bool m.is.f.R,.bool m.is.f.B,.bool m.is.f.E,.bool m.is.f.S,.int .u8 m.is.f.D,.int .u8 m.is.f.V,.int .u32 m.is.f.A,vi,
 .nilFunc,.int .u8 m.last,.int .i64 m.alike,.int .i64 m.stuffs,.int .i64 m.every,.int .i64 m.since,.int .u64 (m.re 0),.int .u64 (m.re 1),.int .u64 (m.re 2),.int .u64 (m.re 3),.int .u64 (m.re 4),.int .u64 (m.re 5),vR,vP,vn,.bool m.wrong,
 .int .i64 m.f.K,.int .u32 m.f.I,.bool m.f.X,.bool m.f.R,.bool m.f.B,.bool m.f.E,.bool m.f.S,.int .u8 m.f.D,.int .u8 m.f.V,.int .u32 m.f.A,vd]
theorem z9C (R:Nat) (m:PM) (vn vd:Value) (P:Nat->Prop) (s:Sta) (v:Value) (w:World) (h:MS w R m vn vd P) (hv:zjN w (fun b=>P b\/vd.ownBlock=some b) v s.l) :
    Calls Tryz.prog 219 #[.pointer (some ⟨R,0,none⟩),z1V s v] w (z1z w R vd P (m.fin s)):=by
 obtain⟨vi,vR,vP,hb,_⟩:=h.blk
 have hR:=h.ltR
 obtain⟨k,er,⟨fK,fI,fX,fR,fB,fE,fS,fD,fV,fA⟩,sl⟩:=s
 simp only[z1V]
 have H:=zH h
 have HV:=zH hv
 clear h hv hb
 go_enter Tryz.func219,Tryz.ntmps219
 go_wp2
 have n1:Nb w (w.alloc (.cells #[.int .i64 k,.int .i64 er,.int .i64 fK,.int .u32 fI,.bool fX,.bool fR,.bool fB,.bool fE,.bool fS,.int .u8 fD,.int .u8 fV,.int .u32 fA,v] 173)):=Nb.rfl.al _
 have X1:=Blk.new w #[.int .i64 k,.int .i64 er,.int .i64 fK,.int .u32 fI,.bool fX,.bool fR,.bool fB,.bool fE,.bool fS,.int .u8 fD,.int .u8 fV,.int .u32 fA,v] 173
 have s1:=H.out.st.nb n1
 generalize w.alloc (.cells #[.int .i64 k,.int .i64 er,.int .i64 fK,.int .u32 fI,.bool fX,.bool fR,.bool fB,.bool fE,.bool fS,.int .u8 fD,.int .u8 fV,.int .u32 fA,v] 173)=w1 at *
 obtain⟨vi,vR,vP,hb,_⟩:=s1.ms.blk
 have c0:w1.cell? ⟨R,0,none⟩=some (.bool m.kn):=hb.cell 0
 have c1:w1.cell? ⟨R,1,none⟩=some (.int .i64 m.seen):=hb.cell 1
 obtain⟨a,c,rfl,hv⟩:=HV.out
 have x13:=X1.c13
 have HV2:=zH hv
 have S1:=zH s1
 have HB:=zH (hb.drewN 1)
 have HX:=zH (X1.drewN 1)
 have N1:=zH n1
 clear hv HV s1 n1 hb
 refine wp_region_held_drew (S:=fun w'=>w'.cell? ⟨R,0,none⟩=some (.bool m.kn)/\w'.cell? ⟨R,1,none⟩=some (.int .i64 m.seen)/\Blk w' w.heap.size #[.int .i64 k,.int .i64 er,.int .i64 fK,.int .u32 fI,.bool fX,.bool fR,.bool fB,.bool fE,.bool fS,.int .u8 fD,.int .u8 fV,.int .u32 fA,.slice a sl.length c] 173) (by kernel_rfl) ⟨c0,c1,X1.drewN 1⟩ (fun hHeld => ?_)
 refine wpAnyH_take (i:=0) (v := ?v0) rfl (by kernel_rfl) (by kernel_rfl) (by kernel_rfl) (fun _ _ _ h=>h) (Or.inl ⟨by rfl,?hy0⟩) (by assumption) ?rest0
 case hy0 =>
  rintro w' ⟨h0,h1,h2⟩
  have x13:=h2.c13
  obtain⟨x0,x1,x2,x3,x4,x5,x6,x7,x8,x9,x10,x11,x12⟩:=x13
  clear h2
  go_simp
  try with_reducible rfl
 case rest0 =>
 try simp only[List.getElem_toArray,List.getElem_cons_zero,List.getElem_cons_succ,Act.put,List.setIfInBounds_toArray,List.set_cons_zero,List.set_cons_succ]
 refine wpAnyH_take (i:=1) (v := ?v1) rfl (by kernel_rfl) (by kernel_rfl) (by kernel_rfl) (fun _ _ _ h=>h) (Or.inl ⟨by rfl,?hy1⟩) (by assumption) ?rest1
 case hy1 =>
  rintro w' ⟨h0,h1,h2⟩
  have x13:=h2.c13
  obtain⟨x0,x1,x2,x3,x4,x5,x6,x7,x8,x9,x10,x11,x12⟩:=x13
  clear h2
  go_simp
  try with_reducible rfl
 case rest1 =>
 try simp only[List.getElem_toArray,List.getElem_cons_zero,List.getElem_cons_succ,Act.put,List.setIfInBounds_toArray,List.set_cons_zero,List.set_cons_succ]
 refine wpAnyH_take (i:=2) (v := ?v2) rfl (by kernel_rfl) (by kernel_rfl) (by kernel_rfl) (fun _ _ _ h=>h) (Or.inl ⟨by rfl,?hy2⟩) (by assumption) ?rest2
 case hy2 =>
  rintro w' ⟨h0,h1,h2⟩
  have x13:=h2.c13
  obtain⟨x0,x1,x2,x3,x4,x5,x6,x7,x8,x9,x10,x11,x12⟩:=x13
  clear h2
  go_simp
  try with_reducible rfl
 case rest2 =>
 try simp only[List.getElem_toArray,List.getElem_cons_zero,List.getElem_cons_succ,Act.put,List.setIfInBounds_toArray,List.set_cons_zero,List.set_cons_succ]
 refine wpAnyH_take (i:=3) (v := ?v3) rfl (by kernel_rfl) (by kernel_rfl) (by kernel_rfl) (fun _ _ _ h=>h) (Or.inl ⟨by rfl,?hy3⟩) (by assumption) ?rest3
 case hy3 =>
  rintro w' ⟨h0,h1,h2⟩
  have x13:=h2.c13
  obtain⟨x0,x1,x2,x3,x4,x5,x6,x7,x8,x9,x10,x11,x12⟩:=x13
  clear h2
  go_simp
  try with_reducible rfl
 case rest3 =>
 try simp only[List.getElem_toArray,List.getElem_cons_zero,List.getElem_cons_succ,Act.put,List.setIfInBounds_toArray,List.set_cons_zero,List.set_cons_succ]
 refine wpAnyH_take (i:=4) (v := ?v4) rfl (by kernel_rfl) (by kernel_rfl) (by kernel_rfl) (fun _ _ _ h=>h) (Or.inl ⟨by rfl,?hy4⟩) (by assumption) ?rest4
 case hy4 =>
  rintro w' ⟨h0,h1,h2⟩
  have x13:=h2.c13
  obtain⟨x0,x1,x2,x3,x4,x5,x6,x7,x8,x9,x10,x11,x12⟩:=x13
  clear h2
  go_simp
  try with_reducible rfl
 case rest4 =>
 try simp only[List.getElem_toArray,List.getElem_cons_zero,List.getElem_cons_succ,Act.put,List.setIfInBounds_toArray,List.set_cons_zero,List.set_cons_succ]
 refine wpAnyH_take (i:=5) (v := ?v5) rfl (by kernel_rfl) (by kernel_rfl) (by kernel_rfl) (fun _ _ _ h=>h) (Or.inl ⟨by rfl,?hy5⟩) (by assumption) ?rest5
 case hy5 =>
  rintro w' ⟨h0,h1,h2⟩
  have x13:=h2.c13
  obtain⟨x0,x1,x2,x3,x4,x5,x6,x7,x8,x9,x10,x11,x12⟩:=x13
  clear h2
  go_simp
  try with_reducible rfl
 case rest5 =>
 try simp only[List.getElem_toArray,List.getElem_cons_zero,List.getElem_cons_succ,Act.put,List.setIfInBounds_toArray,List.set_cons_zero,List.set_cons_succ]
 refine wpAnyH_take (i:=6) (v := ?v6) rfl (by kernel_rfl) (by kernel_rfl) (by kernel_rfl) (fun _ _ _ h=>h) (Or.inl ⟨by rfl,?hy6⟩) (by assumption) ?rest6
 case hy6 =>
  rintro w' ⟨h0,h1,h2⟩
  have x13:=h2.c13
  obtain⟨x0,x1,x2,x3,x4,x5,x6,x7,x8,x9,x10,x11,x12⟩:=x13
  clear h2
  go_simp
  try with_reducible rfl
 case rest6 =>
 try simp only[List.getElem_toArray,List.getElem_cons_zero,List.getElem_cons_succ,Act.put,List.setIfInBounds_toArray,List.set_cons_zero,List.set_cons_succ]
 refine wpAnyH_take (i:=7) (v := ?v7) rfl (by kernel_rfl) (by kernel_rfl) (by kernel_rfl) (fun _ _ _ h=>h) (Or.inl ⟨by rfl,?hy7⟩) (by assumption) ?rest7
 case hy7 =>
  rintro w' ⟨h0,h1,h2⟩
  have x13:=h2.c13
  obtain⟨x0,x1,x2,x3,x4,x5,x6,x7,x8,x9,x10,x11,x12⟩:=x13
  clear h2
  go_simp
  try with_reducible rfl
 case rest7 =>
 try simp only[List.getElem_toArray,List.getElem_cons_zero,List.getElem_cons_succ,Act.put,List.setIfInBounds_toArray,List.set_cons_zero,List.set_cons_succ]
 refine wpAnyH_take (i:=8) (v := ?v8) rfl (by kernel_rfl) (by kernel_rfl) (by kernel_rfl) (fun _ _ _ h=>h) (Or.inl ⟨by rfl,?hy8⟩) (by assumption) ?rest8
 case hy8 =>
  rintro w' ⟨h0,h1,h2⟩
  have x13:=h2.c13
  obtain⟨x0,x1,x2,x3,x4,x5,x6,x7,x8,x9,x10,x11,x12⟩:=x13
  clear h2
  go_simp
  try with_reducible rfl
 case rest8 =>
 try simp only[List.getElem_toArray,List.getElem_cons_zero,List.getElem_cons_succ,Act.put,List.setIfInBounds_toArray,List.set_cons_zero,List.set_cons_succ]
 refine wpAnyH_take (i:=9) (v := ?v9) rfl (by kernel_rfl) (by kernel_rfl) (by kernel_rfl) (fun _ _ _ h=>h) (Or.inl ⟨by rfl,?hy9⟩) (by assumption) ?rest9
 case hy9 =>
  rintro w' ⟨h0,h1,h2⟩
  have x13:=h2.c13
  obtain⟨x0,x1,x2,x3,x4,x5,x6,x7,x8,x9,x10,x11,x12⟩:=x13
  clear h2
  go_simp
  try with_reducible rfl
 case rest9 =>
 try simp only[List.getElem_toArray,List.getElem_cons_zero,List.getElem_cons_succ,Act.put,List.setIfInBounds_toArray,List.set_cons_zero,List.set_cons_succ]
 refine wpAnyH_take (i:=10) (v := ?v10) rfl (by kernel_rfl) (by kernel_rfl) (by kernel_rfl) (fun _ _ _ h=>h) (Or.inl ⟨by rfl,?hy10⟩) (by assumption) ?rest10
 case hy10 =>
  rintro w' ⟨h0,h1,h2⟩
  have x13:=h2.c13
  obtain⟨x0,x1,x2,x3,x4,x5,x6,x7,x8,x9,x10,x11,x12⟩:=x13
  clear h2
  go_simp
  try with_reducible rfl
 case rest10 =>
 try simp only[List.getElem_toArray,List.getElem_cons_zero,List.getElem_cons_succ,Act.put,List.setIfInBounds_toArray,List.set_cons_zero,List.set_cons_succ]
 refine wpAnyH_take (i:=11) (v := ?v11) rfl (by kernel_rfl) (by kernel_rfl) (by kernel_rfl) (fun _ _ _ h=>h) (Or.inl ⟨by rfl,?hy11⟩) (by assumption) ?rest11
 case hy11 =>
  rintro w' ⟨h0,h1,h2⟩
  have x13:=h2.c13
  obtain⟨x0,x1,x2,x3,x4,x5,x6,x7,x8,x9,x10,x11,x12⟩:=x13
  clear h2
  go_simp
  try with_reducible rfl
 case rest11 =>
 try simp only[List.getElem_toArray,List.getElem_cons_zero,List.getElem_cons_succ,Act.put,List.setIfInBounds_toArray,List.set_cons_zero,List.set_cons_succ]
 refine wpAnyH_ready (rs:=[12]) (by kernel_rfl) (by simp) ?_
 refine AllReadyH.cons rfl (fun K hK => ?_) AllReadyH.nil
 rw[if_pos (by rfl)]
 refine wp_store_row _ _ _ rfl R _ rfl rfl _ _ HB.out (by kernel_rfl) rfl (by simp[Value.oneCell']) ?_
 have B2:=zH (Blk.row HB.out ((m.fin ⟨k,er,⟨fK,fI,fX,fR,fB,fE,fS,fD,fV,fA⟩,sl⟩).cs0 .nilFunc (.slice none 0 0) (.slice a sl.length c) (.slice none 0 0) (.slice none 0 0)))
 have K2:=zH (Kp.row (w1.drewN 1) R ((m.fin ⟨k,er,⟨fK,fI,fX,fR,fB,fE,fS,fD,fV,fA⟩,sl⟩).cs0 .nilFunc (.slice none 0 0) (.slice a sl.length c) (.slice none 0 0) (.slice none 0 0)))
 have hX2:=HX.out.keep K2.out (by omega)
 obtain⟨w2,hw2⟩:∃w2,w2=(w1.drewN 1).setRow R ((m.fin ⟨k,er,⟨fK,fI,fX,fR,fB,fE,fS,fD,fV,fA⟩,sl⟩).cs0 .nilFunc (.slice none 0 0) (.slice a sl.length c) (.slice none 0 0) (.slice none 0 0)):=⟨_,rfl⟩
 rw[<- hw2]at B2 K2 hX2
 have e2:w1.drew.setRow R #[.bool m.kn,.int .i64 m.seen,.int .i64 k,.int .i64 er,.int .i64 fK,.int .u32 fI,.bool fX,.bool fR,.bool fB,.bool fE,.bool fS,.int .u8 fD,.int .u8 fV,.int .u32 fA,.slice a sl.length c,.nilFunc,.int .u8 0,.int .i64 0,.int .i64 0,.int .i64 0,.int .i64 0,.int .u64 0,.int .u64 0,.int .u64 0,.int .u64 0,.int .u64 0,.int .u64 0,.slice none 0 0,.slice none 0 0,.nilFunc,.bool false,.int .i64 0,.int .u32 0,.bool false,.bool false,.bool false,.bool false,.bool false,.int .u8 0,.int .u8 0,.int .u32 0,.slice none 0 0]=w2:=hw2.symm
 rw[e2]
 refine hK.out _ _ ⟨B2.out.cell 0,B2.out.cell 1,hX2⟩ (fun hHeld => ?_)
 clear hK K hw2 e2
 try simp only[List.getElem_toArray,List.getElem_cons_zero,List.getElem_cons_succ,Act.put,List.setIfInBounds_toArray,List.set_cons_zero,List.set_cons_succ]
 refine wpAnyH_done (by kernel_rfl) ?_ _
 have c15:w2.cell? ⟨R,15,none⟩=some .nilFunc:=B2.out.cell 15
 have f15:=B2.out.frozen 15
 go_wp2
 go_end0
 have b3:=B2.out.set 15 (.func (.func 222) #[.pointer (some ⟨R,0,none⟩)] #[])
 have k3:Kp (fun b=>b=R) (w1.drewN 1) (w2.setCell ⟨R,15,none⟩ (.func (.func 222) #[.pointer (some ⟨R,0,none⟩)] #[])):=K2.out.tr (Kp.set (F:=fun b=>b=R) rfl) (fun _ e => .inl e)
 have k1:Kp (fun b=>b=R) w1 (w2.setCell ⟨R,15,none⟩ (.func (.func 222) #[.pointer (some ⟨R,0,none⟩)] #[])):=(Kp.ofNb (Nb.drewN w1 1)).tr k3 (fun _ e => .inl e)
 generalize w2.setCell ⟨R,15,none⟩ (.func (.func 222) #[.pointer (some ⟨R,0,none⟩)] #[])=w3 at *
 obtain⟨hv,hvb⟩:=HV2.out
 have hnR:∀b,(P b\/vd.ownBlock=some b)->b≠R:=by
  rintro b (hb | hb) rfl
  ·exact H.out.nP _ hb (.inl rfl)
  ·exact H.out.neR hb
 have hlt:∀b,(P b\/vd.ownBlock=some b)->b < w.heap.size:=by
  rintro b (hb | hb)
  ·exact H.out.lt _ hb
  ·exact H.out.own.lt hb
 have hsz:=N1.out.size
 have hsz2:=k1.size
 refine⟨rfl,fun b=>P b\/vd.ownBlock=some b,fun _=>False,.slice none 0 0,.nilFunc,⟨⟨⟨_,_,_,b3,⟨a,c,rfl,?_,hvb⟩,.inl ⟨rfl,rfl⟩,.inl ⟨rfl,rfl⟩⟩,z04.nil _,fun _=>rfl,?_,?_⟩,?_,?_,?_⟩,trivial,fun _ h=>h.elim⟩
 ·exact(hv.below N1.out).sm (k1.sm (P:=fun b=>P b\/vd.ownBlock=some b) hnR) hvb
 ·rintro b hb (h | h)
  ·exact hnR b hb h
  ·simp[Value.ownBlock]at h
 ·intro b hb
  have:=hlt b hb
  omega
 ·exact S1.out.kp.tr k1 (fun b e => .inl (.inl e))
 ·rintro b (hb | hb)
  ·exact .inl hb
  ·exact .inr (.inl (.inr hb))
 ·rintro b (hb | hb)
  ·exact .inl (.inl hb)
  ·simp[Value.ownBlock]at hb
theorem z3x (R:Nat) (m:PM) (vn vd:Value) (P:Nat->Prop) (er:Nat) (w:World) (h:MS w R m vn vd P) :
    Calls Tryz.prog 207 #[.pointer (some ⟨R,0,none⟩),.int .i64 er] w (z1z w R vd P (m.bad er)):=by
 have he:=z9C R m vn vd P (z1j er) (.slice none 0 0) w h ⟨none,0,rfl,Bs.nil w,by simp⟩
 simp only[z1V,z1j,noF]at he
 have HE:=zH he
 clear he h
 go_enter Tryz.func207,Tryz.ntmps207
 go_wp2_with fail
 refine HE.out.mono ?_
 rintro e w1 ⟨rfl,h1⟩
 have H1:=zH h1
 clear h1
 go_wp2
 go_end0
 exact⟨rfl,H1.out⟩
theorem zfa (R:Nat) (m:PM) (vn vd:Value) (P:Nat->Prop) (b:Nat) (w:World) (h:MS w R m vn vd P) (ha:m.alike<=100000) :
    Calls Tryz.prog 208 #[.pointer (some ⟨R,15,none⟩),.int .u8 b] w fun e w'=>e = .returned (.tuple #[])/\St w R vd P (m.add b) vn vd P w':=by
 obtain⟨vi,vR,vP,hb,_⟩:=h.blk
 have c16:w.cell? ⟨R,16,none⟩=some (.int .u8 m.last):=hb.cell 16
 have c17:w.cell? ⟨R,17,none⟩=some (.int .i64 m.alike):=hb.cell 17
 have f16:=hb.frozen 16
 have f17:=hb.frozen 17
 have H:=zH h
 clear h hb
 by_cases hq:b=m.last
 ·have d:((b:Int) != (m.last:Int))=false:=by rw[bne_eq_false_iff_eq];omega
  have e:(if b=m.last then m.alike+1 else 1)=m.alike+1:=if_pos hq
  have s1:=H.out.st.put { m with alike:=m.alike+1 } vn 17 (.int .i64 ((m.alike+1:Nat):Int)) (fun _ _ _=>rfl) rfl rfl rfl rfl
  rw[show((m.alike+1:Nat):Int)=(m.alike:Int)+1 from rfl]at s1
  have S1:=zH s1
  have HQ:=zH hq
  have E:=zH e
  clear s1 hq e
  go_enter Tryz.func208,Tryz.ntmps208
  go_wp2
  go_end0
  refine⟨rfl,?_⟩
  rw[PM.add,E.out,HQ.out]
  exact S1.out
 ·have d:((b:Int) != (m.last:Int))=true:=by rw[bne_iff_ne];omega
  have e:(if b=m.last then m.alike+1 else 1)=1:=if_neg hq
  have s1:=((H.out.st.put { m with last:=b } vn 16 (.int .u8 b) (fun _ _ _=>rfl) rfl rfl rfl rfl).put { m with last:=b,alike:=0 } vn 17 (.int .i64 0) (fun _ _ _=>rfl) rfl rfl rfl rfl).put { m with last:=b,alike:=1 } vn 17 (.int .i64 1) (fun _ _ _=>rfl) rfl rfl rfl rfl
  have S1:=zH s1
  have E:=zH e
  clear s1 hq e
  go_enter Tryz.func208,Tryz.ntmps208
  go_wp2
  go_end0
  refine⟨rfl,?_⟩
  rw[PM.add,E.out]
  exact S1.out
def zfM(re:Nat->Nat):Prop:=∀k,1<=k->k<=5->re k < 2^szK (k:Nat)
def zky(ks:List Nat):Prop:=∀k∈ks,1<=k/\k<=5
theorem ze7(h:1<=k/\k<=5):szK (k:Nat)≠0:=by
 rcases(by omega:k=1\/k=2\/k=3\/k=4\/k=5)with rfl | rfl | rfl | rfl | rfl<;>decide
theorem zfM.upd(h:zfM re)(k v:Nat)(hv:v < 2^szK (k:Nat)):zfM (zcR re k v):=by
 intro j h1 h2
 unfold zcR
 by_cases e:j=k
 ·subst e;rw[if_pos rfl];exact hv
 ·rw[if_neg e];exact h j h1 h2
theorem z6C(re:Nat->Nat)(ks:List Nat)(k b:Nat):zL re (ks++[k]) b=zcR (zL re ks b) k (z2x (szK (k:Nat)) (z08 (k:Nat)) (zL re ks b k) b):=by simp[zL]
theorem zfM.feed(h:zfM re)(b:Nat):zky ks->zfM (zL re ks b):=by
 refine zB (P:=fun ks=>zky ks->zfM (zL re ks b)) (fun _=>h) (fun ks k ih hk => ?_) ks
 have h1:=ih (fun j hj=>hk j (List.mem_append_left _ hj))
 have h2:=hk k (List.mem_append_right _ (List.mem_singleton.2 rfl))
 rw[z6C]
 obtain⟨_,_,n3,_⟩:=z1C (k:Nat) (ze7 h2)
 exact h1.upd k _ (z6O n3)
theorem zfB(m:PM)(R:Nat)(vn vd vi vR vP:Value)(k:Nat)(h:1<=k/\k<=5):(m.cs R vn vd vi vR vP)[21+k]? = some (.int .u64 (m.re k)):=by
 rcases(by omega:k=1\/k=2\/k=3\/k=4\/k=5)with rfl | rfl | rfl | rfl | rfl<;>rfl
theorem zi4(m:PM)(R:Nat)(vn vd vi vR vP:Value)(k v:Nat)(h:1<=k/\k<=5):(m.cs R vn vd vi vR vP).setIfInBounds (21+k) (.int .u64 (v:Nat))=({ m with re:=zcR m.re k v }:PM).cs R vn vd vi vR vP:=by
 rcases(by omega:k=1\/k=2\/k=3\/k=4\/k=5)with rfl | rfl | rfl | rfl | rfl<;>rfl
theorem z7q (R:Nat) (m:PM) (vn vd:Value) (P:Nat->Prop) (v:Value) (ks:List Nat) (b:Nat) (w:World) (h:MS w R m vn vd P) (hB:z0i w) (hv:KsV w P v ks) (hk:zky ks) (hre:zfM m.re) (hb:b<=1) (hL:ks.length<=100000) :
    Calls Tryz.prog 209 #[.pointer (some ⟨R,21,none⟩),v,.int .u8 b] w fun e w'=>e = .returned (.tuple #[])/\St w R vd P { m with re:=zL m.re ks b } vn vd P w':=by
 have hlen:∃a c,v = .slice a ks.length c/\(0 < ks.length->∃g,a=some ⟨g,0,none⟩):=by
  rcases hv with ⟨rfl,rfl⟩ | ⟨g,rfl,_⟩
  ·exact⟨none,0,rfl,by simp⟩
  ·exact⟨_,_,rfl,fun _=>⟨g,rfl⟩⟩
 obtain⟨a,c,rfl,ha⟩:=hlen
 have H:=zH h
 have HV:=zH hv
 have HB:=zH hB
 have HK:=zH hk
 have HR:=zH hre
 have HA:=zH ha
 clear h hB hv hk hre ha
 go_enter Tryz.func209,Tryz.ntmps209
 go_wp2
 go_loopw [10] (fun i wr=>∃k:Nat,k<=ks.length/\i = .int .i64 k/\St w R vd P { m with re:=zL m.re (ks.take k) b } vn vd P wr) (fun i _=>ks.length - (intOf i).toNat)
 case atStart=>exact⟨0,Nat.zero_le _,rfl,H.out.st⟩
 case round =>
  obtain⟨k,hk,rfl,hI⟩:=hrel
  by_cases hlt:k < ks.length
  ·obtain⟨g,rfl⟩:=HA.out (by omega)
   obtain⟨x,hx⟩:∃x,ks[k]? = some x:=⟨ks[k],by simp[hlt]⟩
   have hx5:=HK.out x (List.mem_of_getElem? hx)
   have hre:zfM (zL m.re (ks.take k) b):=HR.out.feed b (fun j hj=>HK.out j (List.mem_of_mem_take hj))
   have hrx:=hre x hx5.1 hx5.2
   obtain⟨vi,vR,vP,hbl,_⟩:=hI.ms.blk
   have cx:wr.cell? ⟨R,21+x,none⟩=some (.int .u64 (zL m.re (ks.take k) b x:Nat)):=(hbl.cell _).trans (zfB _ R vn vd vi vR vP x hx5)
   have fx:=hbl.frozen (21+x)
   have cg:wr.cell? ⟨g,k,none⟩=some (.int .i64 x):=by
    rcases HV.out with ⟨h1,_⟩ | ⟨g',h1,h2,h3⟩
    ·cases h1
    ·cases h1
     have:=((hI.kp.sm H.out.nP).blk h2 h3).cell k
     rw[this]
     simp[hx]
   have HM:=zH (fun w' (hn:Nb wr w') (a':Option Addr) (c':Nat) (hbs:Bs w' a' c' [b])=>zey (x:Nat) (zL m.re (ks.take k) b x) a' c' [b] w' (((hI.both H.out HB.out).1).below hn) hbs (ze7 hx5) hrx (by simp[chk];omega))
   have HSt:=zH hI
   have hcs:(({ m with re:=zL m.re (ks.take k) b }:PM).cs R vn vd vi vR vP)[21+x]? = some (.int .u64 (zL m.re (ks.take k) b x:Nat)):=zfB _ R vn vd vi vR vP x hx5
   have HCS:=zH hcs
   clear hcs
   have HBL:=zH hbl
   have hsnoc:zL m.re (ks.take (k+1)) b=zcR (zL m.re (ks.take k) b) x (z2x (szK (x:Nat)) (z08 (x:Nat)) (zL m.re (ks.take k) b x) b):=by
    rw[zX hx,z6C]
   rw[show z45 (szK (x:Nat)) (z08 (x:Nat)) (zL m.re (ks.take k) b x) [b]=z2x (szK (x:Nat)) (z08 (x:Nat)) (zL m.re (ks.take k) b x) b from rfl]at HM
   have HS:=zH hsnoc
   have hix:0<=(x:Int)/\(x:Int) < 6:=by omega
   have hR:R < wr.heap.size:=hbl.lt
   generalize zL m.re (ks.take k) b x=r at *
   generalize z2x (szK (x:Nat)) (z08 (x:Nat)) r b=r' at *
   clear hI hbl hsnoc hre hrx hx HV HA HK
   go_wp2
   have NB:RowKit.Hid (Nb wr wr.drew):=zH (Nb.drewN wr 1)
   have F1:=zH (zf.lit wr.drew [b] #[.int .u8 (b:Nat)] (by simp) 1 (by simp) (by simp) (by simp;omega))
   go_region_with (
    (go_at_call 190
     refine(HM.out _ (NB.out.al _) _ _ F1.out.bs.1).mono ?_
     rintro e w7 ⟨rfl,n7⟩
     have NB:=zH ((NB.out.al _).tr n7)
     have c7:=((HBL.out.nb NB.out).cell (21+x)).trans HCS.out
     have f7:=(HBL.out.nb NB.out).frozen (21+x)))
   all_goals go_wp2
   all_goals go_roundw
   all_goals first
    | (refine⟨k+1,by omega,by go_num,(HSt.out.nb NB.out).put _ vn (21+x) (.int .u64 (r':Nat)) (fun vi vR vP => ?_) rfl rfl rfl rfl⟩
       rw[HS.out]
       exact zi4 _ R vn vd vi vR vP x r' hx5)
    | (simp[intOf];omega)
  ·obtain rfl:k=ks.length:=by omega
   rw[List.take_length]at hI
   have HI:=zH hI
   clear hI
   go_wp2
   go_end0
   exact⟨rfl,HI.out⟩
theorem zii(h:1<=k/\k<=5):zhZ (k:Nat) []=zD (k:Nat):=by
 have hz:=ze7 h
 obtain⟨_,_,_,_,n5⟩:=z1C (k:Nat) hz
 rw[zhZ,z4z,if_pos (by simp[z0A,hz,n5,chk])]
 rfl
def z2n(re:Nat->Nat)(j:Nat):Nat->Nat:=fun k=>if 1<=k/\k < j then zD (k:Nat)else re k
theorem za1(re:Nat->Nat):z2n re 1=re:=by
 funext k
 unfold z2n
 rw[if_neg (by omega)]
theorem zab(re:Nat->Nat):z2n re 6=z3j re:=by
 funext k
 unfold z2n z3j
 by_cases h:1<=k/\k < 6
 ·rw[if_pos h,if_pos (by omega)]
 ·rw[if_neg h,if_neg (by omega)]
theorem z99(re:Nat->Nat)(hj:1<=j):z2n re (j+1)=zcR (z2n re j) j (zD (j:Nat)):=by
 funext k
 show(if 1<=k/\k < j+1 then zD (k:Nat)else re k)=if k=j then zD (j:Nat)else if 1<=k/\k < j then zD (k:Nat)else re k
 by_cases e:k=j
 ·subst e;rw[if_pos rfl,if_pos (by omega)]
 ·rw[if_neg e]
  by_cases h:1<=k/\k < j
  ·rw[if_pos h,if_pos (by omega)]
  ·rw[if_neg h,if_neg (by omega)]
theorem zdv (R:Nat) (m:PM) (vn vd:Value) (P:Nat->Prop) (w:World) (h:MS w R m vn vd P) (hB:z0i w) :
    Calls Tryz.prog 198 #[.pointer (some ⟨R,21,none⟩)] w fun e w'=>e = .returned (.tuple #[])/\St w R vd P { m with re:=z3j m.re } vn vd P w':=by
 have H:=zH h
 have HB:=zH hB
 clear h hB
 go_enter Tryz.func198,Tryz.ntmps198
 go_wp2
 go_loopw [2] (fun i wr=>∃k:Nat,1<=k/\k<=6/\i = .int .i64 k/\St w R vd P { m with re:=z2n m.re k } vn vd P wr) (fun i _=>6 - (intOf i).toNat)
 case atStart=>exact⟨1,by omega,by omega,rfl,by rw[za1];exact H.out.st⟩
 case round =>
  obtain⟨x,hx1,hx6,rfl,hI⟩:=hrel
  by_cases hlt:x < 6
  ·have hx5:1<=x/\x<=5:=by omega
   obtain⟨vi,vR,vP,hbl,_⟩:=hI.ms.blk
   have HM:=zH (fun w' (hn:Nb wr w')=>zh5 (x:Nat) none 0 [] w' (((hI.both H.out HB.out).1).below hn) (Bs.nil w'))
   rw[zii hx5]at HM
   have hcs:(({ m with re:=z2n m.re x }:PM).cs R vn vd vi vR vP)[21+x]? = some (.int .u64 (z2n m.re x x:Nat)):=zfB _ R vn vd vi vR vP x hx5
   have HCS:=zH hcs
   have HSt:=zH hI
   have HBL:=zH hbl
   have HS:=zH (z99 m.re hx1)
   have hix:0<=(x:Int)/\(x:Int) < 6:=by omega
   have hR:R < wr.heap.size:=hbl.lt
   generalize zD (x:Nat)=r' at *
   clear hI hbl hcs
   go_wp2
   have NB:RowKit.Hid (Nb wr wr.drew):=zH (Nb.drewN wr 1)
   go_region_with (
    (go_at_call 174
     refine(HM.out _ NB.out).mono ?_
     rintro e w7 ⟨rfl,n7⟩
     have NB:=zH (NB.out.tr n7)
     have c7:=((HBL.out.nb NB.out).cell (21+x)).trans HCS.out
     have f7:=(HBL.out.nb NB.out).frozen (21+x)))
   all_goals go_wp2
   all_goals go_roundw
   all_goals first
    | (refine⟨x+1,by omega,by omega,by go_num,(HSt.out.nb NB.out).put _ vn (21+x) (.int .u64 (r':Nat)) (fun vi vR vP => ?_) rfl rfl rfl rfl⟩
       rw[HS.out]
       exact zi4 _ R vn vd vi vR vP x r' hx5)
    | (simp[intOf];omega)
  ·obtain rfl:x=6:=by omega
   rw[zab]at hI
   have HI:=zH hI
   clear hI
   go_wp2
   go_end0
   exact⟨rfl,HI.out⟩
theorem K0V.more{k:K0}(h:K0V w P R k v)(hn:Nb w w')(hp:∀b,P b->P' b):K0V w' P' R k v:=h.keep (Sm.nb hn) hp
theorem Box.more(h:Box w P c v t)(hn:Nb w w')(hp:∀b,P b->P' b):Box w' P' c v t:=h.keep (Sm.nb hn) hp
theorem z6J (R:Nat) (m:PM) (vn vd:Value) (P:Nat->Prop) (want size:Nat) (k:K0) (K:Nat) (fi ca:Array Value) (w:World) (h:MS w R m vn vd P) (hk:K0V w P R k (.func (.func K) fi ca)) (h0:0 < size) (h32:size<=32) :
    Calls Tryz.prog 241 #[.pointer (some ⟨R,0,none⟩),.int .u64 want,.int .i64 size,.func (.func K) fi ca] w (z1z w R vd P (m.check want size k)):=by
 obtain⟨s1,b1⟩:=h.st.box (.pointer (some ⟨R,0,none⟩)) 109
 obtain⟨s2,b2⟩:=s1.box (.int .u64 (want:Nat)) 73
 obtain⟨s3,b3⟩:=s2.box (.func (.func K) fi ca) 1
 have n2:Nb (w.alloc (.cells #[.pointer (some ⟨R,0,none⟩)] 109)) ((w.alloc (.cells #[.pointer (some ⟨R,0,none⟩)] 109)).alloc (.cells #[.int .u64 (want:Nat)] 73)):=Nb.rfl.al _
 have n3:Nb ((w.alloc (.cells #[.pointer (some ⟨R,0,none⟩)] 109)).alloc (.cells #[.int .u64 (want:Nat)] 73)) (((w.alloc (.cells #[.pointer (some ⟨R,0,none⟩)] 109)).alloc (.cells #[.int .u64 (want:Nat)] 73)).alloc (.cells #[.func (.func K) fi ca] 1)):=Nb.rfl.al _
 have n0:=((Nb.rfl (w:=w)).al (.cells #[.pointer (some ⟨R,0,none⟩)] 109)).tr (n2.tr n3)
 have kn:=z0c R m vn vd _ size (.check want k) 248 #[] _ _ s3.ms ⟨_,_,rfl,rfl,_,_,_,_,rfl,(b1.more n2 (fun _ h => .inl h)).more n3 (fun _ h => .inl h),b2.more n3 (fun _ h => .inl h),b3,hk.more n0 (fun _ h => .inl (.inl (.inl h)))⟩ h0 h32
 simp only[World.size_alloc]at kn s3
 have KN:=zH kn
 have S3:=zH s3
 have hR:=h.ltR
 clear kn s1 s2 s3 b1 b2 b3 n2 n3 n0 h hk
 go_enter Tryz.func241,Tryz.ntmps241
 go_wp2_with fail
 refine KN.out.mono ?_
 rintro e w4 ⟨rfl,h4⟩
 have H4:=zH (zZ.from S3.out h4)
 clear h4
 go_wp2
 go_end0
 exact⟨rfl,H4.out⟩
theorem z44 (R:Nat) (m:PM) (vn vd:Value) (P:Nat->Prop) (f:Fk) (k:K0) (K:Nat) (fi ca:Array Value) (w:World) (h:MS w R m vn vd P) (hk:K0V w P R k (.func (.func K) fi ca)) :
    Calls Tryz.prog 225 #[.pointer (some ⟨R,0,none⟩),.pointer (some ⟨R,f.off,none⟩),.func (.func K) fi ca] w (z1z w R vd P (m.num 1 (.flag f k))):=by
 obtain⟨s2,b2⟩:=h.st.box (.pointer (some ⟨R,f.off,none⟩)) 274
 obtain⟨s3,b3⟩:=s2.box (.func (.func K) fi ca) 1
 have n3:Nb (w.alloc (.cells #[.pointer (some ⟨R,f.off,none⟩)] 274)) ((w.alloc (.cells #[.pointer (some ⟨R,f.off,none⟩)] 274)).alloc (.cells #[.func (.func K) fi ca] 1)):=Nb.rfl.al _
 have n0:=((Nb.rfl (w:=w)).al (.cells #[.pointer (some ⟨R,f.off,none⟩)] 274)).tr n3
 have kn:=z0c R m vn vd _ 1 (.flag f k) 229 #[] _ _ s3.ms ⟨_,_,rfl,rfl,_,_,_,rfl,b2.more n3 (fun _ h => .inl h),b3,hk.more n0 (fun _ h => .inl (.inl h))⟩ (by omega) (by omega)
 simp only[World.size_alloc]at kn s3
 have KN:=zH kn
 have S3:=zH s3
 clear kn s2 s3 b2 b3 n3 n0 h hk
 generalize f.off=o at *
 go_enter Tryz.func225,Tryz.ntmps225
 go_wp2_with fail
 refine KN.out.mono ?_
 rintro e w4 ⟨rfl,h4⟩
 have H4:=zH (zZ.from S3.out h4)
 clear h4
 go_wp2
 go_end0
 exact⟨rfl,H4.out⟩
theorem z5w (R:Nat) (m:PM) (vn vd:Value) (P:Nat->Prop) (size:Nat) (k:KS) (K:Nat) (fi ca:Array Value) (w:World) (h:MS w R m vn vd P) (hk:KSV w P R k (.func (.func K) fi ca)) (h0:0 < size) (h32:size<=32) :
    Calls Tryz.prog 230 #[.pointer (some ⟨R,0,none⟩),.int .i64 size,.func (.func K) fi ca] w (z1z w R vd P (m.num size (.size k))):=by
 obtain⟨s2,b2⟩:=h.st.box (.pointer (some ⟨R,0,none⟩)) 109
 obtain⟨s3,b3⟩:=s2.box (.func (.func K) fi ca) 199
 have n3:Nb (w.alloc (.cells #[.pointer (some ⟨R,0,none⟩)] 109)) ((w.alloc (.cells #[.pointer (some ⟨R,0,none⟩)] 109)).alloc (.cells #[.func (.func K) fi ca] 199)):=Nb.rfl.al _
 have n0:=((Nb.rfl (w:=w)).al (.cells #[.pointer (some ⟨R,0,none⟩)] 109)).tr n3
 have kn:=z0c R m vn vd _ size (.size k) 238 #[] _ _ s3.ms ⟨_,_,rfl,rfl,_,_,_,rfl,b2.more n3 (fun _ h => .inl h),b3,hk.keep (Sm.nb n0) (fun _ h => .inl (.inl h))⟩ h0 h32
 simp only[World.size_alloc]at kn s3
 have KN:=zH kn
 have S3:=zH s3
 clear kn s2 s3 b2 b3 n3 n0 h hk
 go_enter Tryz.func230,Tryz.ntmps230
 go_wp2_with fail
 refine KN.out.mono ?_
 rintro e w4 ⟨rfl,h4⟩
 have H4:=zH (zZ.from S3.out h4)
 clear h4
 go_wp2
 go_end0
 exact⟨rfl,H4.out⟩
theorem z6l (R:Nat) (m:PM) (vn vd:Value) (P:Nat->Prop) (k:K0) (K:Nat) (fi ca:Array Value) (w:World) (h:MS w R m vn vd P) (hk:K0V w P R k (.func (.func K) fi ca)) (hs:m.stuffs<=100000) :
    Calls Tryz.prog 252 #[.pointer (some ⟨R,0,none⟩),.func (.func K) fi ca] w (z1z w R vd P (m.tally k)):=by
 obtain⟨vi,vR,vP,hb,_⟩:=h.blk
 have c18:w.cell? ⟨R,18,none⟩=some (.int .i64 m.stuffs):=hb.cell 18
 have HT:=zH (z9I (m.stuffs:Nat) w (by have hmin:IntKind.i64.min = -9223372036854775808:=rfl;have hmax:IntKind.i64.max=9223372036854775807:=rfl;simp only[Lit.wf,Bool.and_eq_true,decide_eq_true_eq];omega))
 rw[show tyL ((m.stuffs:Nat):Int)=zw m.stuffs by rw[tyL,if_neg (by omega),Int.toNat_natCast],show tyE ((m.stuffs:Nat):Int)=0 by rw[tyE,if_neg (by omega)]]at HT
 have HL:=zH (z05 m.stuffs)
 have HG:=zH (fun w' a' c' (hbs:Bs w' a' c' (zw m.stuffs))=>zjY a' c' (zw m.stuffs) w' hbs (by
  have h4:=z05 m.stuffs
  have hb4:=z0B m.stuffs
  simp[zhP,chk,h4]
  exact hb4))
 have HC:=zH (fun w' (hn:Nb w w')=>z6J R m vn vd P (zF (zw m.stuffs)) 4 k K fi ca w' (h.nb hn) (hk.more hn (fun _ h=>h)) (by omega) (by omega))
 have H:=zH h
 have hE:(m.tally k)=m.check (zF (zw m.stuffs)) 4 k:=rfl
 rw[hE]
 generalize zw m.stuffs=T at *
 clear h hk hb hE
 go_enter Tryz.func252,Tryz.ntmps252
 go_wp2_with fail
 refine HT.out.mono ?_
 rintro e w1 ⟨⟨a1,c1,rfl,f1⟩,n1⟩
 have F1:=zH f1
 have N1:=zH n1
 clear f1 n1
 go_wp2_with fail
 refine(HG.out w1 a1 c1 F1.out.bs.1).mono ?_
 rintro e w2 ⟨rfl,n2⟩
 have N2:=zH (N1.out.tr n2)
 clear n2
 go_wp2_with fail
 rw[HL.out]
 refine(HC.out w2 N2.out).mono ?_
 rintro e w4 ⟨rfl,h4⟩
 have H4:=zH (zZ.from (H.out.st.nb N2.out) h4)
 clear h4
 go_wp2
 go_end0
 exact⟨rfl,H4.out⟩
theorem z4O (R:Nat) (m:PM) (vn vd:Value) (P:Nat->Prop) (x:Nat) (k:K0) (K:Nat) (fi ca:Array Value) (w:World) (h:MS w R m vn vd P) (hB:z0i w) (hk:K0V w P R k (.func (.func K) fi ca)) (hx:1<=x/\x<=5) :
    Calls Tryz.prog 234 #[.pointer (some ⟨R,0,none⟩),.int .i64 x,.func (.func K) fi ca] w (z1z w R vd P (m.sum x k)):=by
 obtain⟨vi,vR,vP,hb,_⟩:=h.blk
 have cx:w.cell? ⟨R,21+x,none⟩=some (.int .u64 (m.re x:Nat)):=(hb.cell _).trans (zfB _ R vn vd vi vR vP x hx)
 have HCS:=zH (zfB m R vn vd vi vR vP x hx)
 have HZ:=zH (fun w' (hn:Nb w w')=>z7B (x:Nat) w' (hB.1.below hn))
 obtain⟨z1,z2,_⟩:=z1C (x:Nat) (ze7 hx)
 have HC:=zH (fun w' (hn:Nb w w')=>z6J R m vn vd P (m.re x) (szK (x:Nat)) k K fi ca w' (h.nb hn) (hk.more hn (fun _ h=>h)) (by omega) z2)
 have H:=zH h
 have HB:=zH hb
 have hE:(m.sum x k)=m.check (m.re x) (szK (x:Nat)) k:=rfl
 rw[hE]
 have hix:0<=(x:Int)/\(x:Int) < 6:=by omega
 have hR:=h.ltR
 generalize m.re x=r at *
 generalize szK (x:Nat)=z at *
 clear h hk hb hE z1 z2 hB
 go_enter Tryz.func234,Tryz.ntmps234
 go_wp2
 have NB:RowKit.Hid (Nb w w.drew):=zH (Nb.drewN w 1)
 go_region_with (
  first
  | (go_at_call 175
     refine(HZ.out _ NB.out).mono ?_
     rintro e w7 ⟨rfl,n7⟩
     have NB:=zH (NB.out.tr n7)
     have c7:=((HB.out.nb NB.out).cell (21+x)).trans HCS.out)
  | (go_at_call 241
     refine(HC.out _ NB.out).mono ?_
     rintro e w8 ⟨rfl,h8⟩
     have H8:=zH (zZ.from (H.out.st.nb NB.out) h8)
     clear h8))
 all_goals go_wp2
 all_goals go_end0
 all_goals exact⟨rfl,H8.out⟩
theorem St.putR{m:PM}(h:St w0 R vd0 P0 m vn vd P w)(hv:KsV w P v ks):St w0 R vd0 P0 { m with oR:=ks } vn vd P (w.setCell ⟨R,27,none⟩ v):=by
 obtain⟨vi,vR,vP,k1,k2,k3,k4⟩:=h.ms.blk
 have hk:Kp (fun b=>b=R) w (w.setCell ⟨R,27,none⟩ v):=Kp.set (F:=fun b=>b=R) rfl
 have hs:Sm P w (w.setCell ⟨R,27,none⟩ v):=hk.sm (fun b hb e=>h.ms.nP b hb (.inl e))
 exact⟨⟨⟨vi,v,vP,k1.set 27 v,k2.keep hs (fun _ h=>h),hv.keep hs (fun _ h=>h),k4.keep hs (fun _ h=>h)⟩,h.ms.own.keep hk (fun g hg e=>h.ms.neR (by rw[hg,e])),h.ms.nil,h.ms.nP,fun b hb=>Nat.lt_of_lt_of_le (h.ms.lt b hb) hk.size⟩,
  h.kp.tr hk (fun _ e => .inl (.inl e)),h.hP,h.hT⟩
theorem St.putP{m:PM}(h:St w0 R vd0 P0 m vn vd P w)(hv:KsV w P v ks):St w0 R vd0 P0 { m with oP:=ks } vn vd P (w.setCell ⟨R,28,none⟩ v):=by
 obtain⟨vi,vR,vP,k1,k2,k3,k4⟩:=h.ms.blk
 have hk:Kp (fun b=>b=R) w (w.setCell ⟨R,28,none⟩ v):=Kp.set (F:=fun b=>b=R) rfl
 have hs:Sm P w (w.setCell ⟨R,28,none⟩ v):=hk.sm (fun b hb e=>h.ms.nP b hb (.inl e))
 exact⟨⟨⟨vi,vR,v,k1.set 28 v,k2.keep hs (fun _ h=>h),k3.keep hs (fun _ h=>h),hv.keep hs (fun _ h=>h)⟩,h.ms.own.keep hk (fun g hg e=>h.ms.neR (by rw[hg,e])),h.ms.nil,h.ms.nP,fun b hb=>Nat.lt_of_lt_of_le (h.ms.lt b hb) hk.size⟩,
  h.kp.tr hk (fun _ e => .inl (.inl e)),h.hP,h.hT⟩
theorem KsV.nil(w:World)(P:Nat->Prop):KsV w P (.slice none 0 0) [] := .inl ⟨rfl,rfl⟩
theorem St.kinds {m:PM} (h:St w0 R vd0 P0 m vn vd P w) (ks:List Nat) (cs:Array Value) (hc:cs=(ks.map fun k:Nat=>Value.int .i64 (k:Int)).toArray) (n:Nat) (hn:n=ks.length) :
    St w0 R vd0 P0 m vn vd (fun b=>P b\/b=w.heap.size) (w.alloc (.cells cs 3))/\KsV (w.alloc (.cells cs 3)) (fun b=>P b\/b=w.heap.size) (.slice (some ⟨w.heap.size,0,none⟩) n n) ks:=by
 subst hn hc
 refine⟨(h.al _).also w.heap.size h.kp.size (fun ht => ?_) (by rw[World.size_alloc];omega),.inr ⟨_,rfl,.inr rfl,Blk.new w _ _⟩⟩
 have:=h.ms.ltT _ ht
 omega
theorem St.bytes {m:PM} (h:St w0 R vd0 P0 m vn vd P w) (l:List Nat) (cs:Array Value) (hc:cs.toList=l.map fun x:Nat=>Value.int .u8 (x:Int)) (n:Nat) (hn:n=l.length) (hl:l.length<=1000) (hb:∀x∈l,x < 256) :
    St w0 R vd0 P0 m vn vd (fun b=>P b\/b=w.heap.size) (w.alloc (.cells cs 5))/\Bs (w.alloc (.cells cs 5)) (some ⟨w.heap.size,0,none⟩) n l/\∀b o t,(some ⟨w.heap.size,0,none⟩:Option Addr)=some ⟨b,o,t⟩->(P b\/b=w.heap.size):=by
 refine⟨(h.al _).also w.heap.size h.kp.size (fun ht => ?_) (by rw[World.size_alloc];omega),?_,fun b o t e => .inr (by cases e;rfl)⟩
 ·have:=h.ms.ltT _ ht
  omega
 ·subst hn
  exact(zf.lit w l cs hc l.length rfl hl hb).bs.1
theorem z6E(w:World)(o:Obj)(R:Nat)(h:R < w.heap.size):(w.alloc o).setCell ⟨R,i,none⟩ a=(w.setCell ⟨R,i,none⟩ a).alloc o:=World.setCell_alloc_past o R i a h
theorem z6F(w:World)(o:Obj)(R:Nat)(h:R < w.heap.size){b:Value}:((w.alloc o).setCell ⟨R,i,none⟩ a).setCell ⟨R,j,none⟩ b=((w.setCell ⟨R,i,none⟩ a).setCell ⟨R,j,none⟩ b).alloc o:=by
 rw[z6E w o R h,z6E (w.setCell ⟨R,i,none⟩ a) o R (by simpa [World.setCell]using h)]
theorem St.smR{m:PM}(h:St w0 R vd0 P0 m vn vd P w)(j:Nat)(u:Value):Sm P w (w.setCell ⟨R,j,none⟩ u) :=
 (Kp.set (F:=fun b=>b=R) rfl:Kp (fun b=>b=R) w (w.setCell ⟨R,j,none⟩ u)).sm (fun b hb e=>h.ms.nP b hb (.inl e))
theorem KsV.set{m:PM}(k:KsV w P v ks)(h:St w0 R vd0 P0 m vn vd P w)(j:Nat)(u:Value):KsV (w.setCell ⟨R,j,none⟩ u) P v ks:=k.keep (h.smR j u) (fun _ h=>h)
theorem Box.set{m:PM}(k:Box w P c v t)(h:St w0 R vd0 P0 m vn vd P w)(j:Nat)(u:Value):Box (w.setCell ⟨R,j,none⟩ u) P c v t:=k.keep (h.smR j u) (fun _ h=>h)
theorem zhm (R:Nat) (m:PM) (vn vd:Value) (P:Nat->Prop) (w:World) (h:MS w R m vn vd P) :
    Calls Tryz.prog 200 #[.pointer (some ⟨R,0,none⟩)] w (z1z w R vd P (z1f .top m)):=by
 have KN:=zH (z0c R m vn vd P 11 .identified _ _ _ w h ⟨_,_,rfl,rfl,rfl⟩ (by omega) (by omega))
 clear h
 go_enter Tryz.func200,Tryz.ntmps200
 go_wp2_with fail
 refine KN.out.mono ?_
 rintro e w4 ⟨rfl,h4⟩
 have H4:=zH h4
 clear h4
 go_wp2
 go_end0
 exact⟨rfl,H4.out⟩
theorem z4o (R:Nat) (m:PM) (vn vd:Value) (P:Nat->Prop) (w:World) (h:MS w R m vn vd P) :
    Calls Tryz.prog 227 #[.pointer (some ⟨R,0,none⟩)] w (z1z w R vd P (z1f .classic m)):=by
 obtain⟨s1,b1⟩:=h.st.box (.pointer (some ⟨R,0,none⟩)) 109
 have hR:=zH h.ltR
 obtain⟨m2,e2⟩:∃m2:PM,m2={ m with f:={ m.f with K:=1 } }:=⟨_,rfl⟩
 have s2:=s1.put m2 vn 31 (.int .i64 1) (fun _ _ _=>by rw[e2];rfl) (by rw[e2]) (by rw[e2]) (by rw[e2]) (by rw[e2])
 have E2:=zH e2
 have b2:=b1.set s1 31 (.int .i64 1)
 obtain⟨vi,vR,vP,hb,_⟩:=s1.ms.blk
 have c31:(w.alloc (.cells #[.pointer (some ⟨R,0,none⟩)] 109)).cell? ⟨R,31,none⟩=some (.int .i64 m.f.K):=hb.cell 31
 have f31:=hb.frozen 31
 have S2:=zH s2
 have B2:=zH b2
 clear h s1 s2 b1 b2 hb e2
 go_enter Tryz.func227,Tryz.ntmps227
 go_wp2
 generalize (w.alloc (.cells #[.pointer (some ⟨R,0,none⟩)] 109)).setCell ⟨R,31,none⟩ (.int .i64 1)=w2 at *
 obtain⟨vi,vR,vP,hb,_⟩:=S2.out.ms.blk
 have hR2:R < w2.heap.size:=S2.out.ms.ltR
 have hb2:w.heap.size < w2.heap.size:=B2.out.2.lt
 have f27:=hb.frozen 27
 have f28:=hb.frozen 28
 have c27:w2.cell? ⟨R,27,none⟩=some vR:=hb.cell 27
 have c28:w2.cell? ⟨R,28,none⟩=some vP:=hb.cell 28
 have hbR:w.heap.size≠R:=fun e=>S2.out.ms.nP _ B2.out.1 (.inl e)
 have cb:w2.cell? ⟨w.heap.size,0,none⟩=some (.pointer (some ⟨R,0,none⟩)):=B2.out.2.cell 0
 clear hb f31 c31
 go_region
 obtain⟨s3,k3⟩:=S2.out.kinds [1] #[.int .i64 1] rfl 1 rfl
 obtain⟨m3,e3⟩:∃m3:PM,m3={ m2 with oR:=[] }:=⟨_,rfl⟩
 have s4:=s3.putR (KsV.nil _ _)
 rw[<- e3]at s4
 obtain⟨m4,e4⟩:∃m4:PM,m4={ m3 with oP:=[1] }:=⟨_,rfl⟩
 have b4:=((B2.out.more (Nb.rfl.al _) (fun _ h => .inl h)).set s3 27 (.slice none 0 0)).set s4 28 (.slice (some ⟨w2.heap.size,0,none⟩) 1 1)
 have s5:=s4.putP (k3.set s3 27 (.slice none 0 0))
 rw[<- e4]at s5
 rw[z6F w2 _ R hR2]at s5 b4
 have s6:=s5.nb (show Nb _ (World.drew _)from Nb.drewN _ 1)
 have b6:=b4.more (show Nb _ (World.drew _)from Nb.drewN _ 1) (fun _ h=>h)
 have kn:=z5w R m4 vn vd _ 4 .cl _ _ _ _ s6.ms ⟨_,_,rfl,rfl,_,rfl,b6⟩ (by omega) (by omega)
 have cb6:_=some (Value.pointer (some ⟨R,0,none⟩)):=b6.2.cell 0
 have eE:z1f .classic m=m4.num 4 (.size .cl):=by rw[e4,e3,E2.out];rfl
 have EE:=zH eE
 have KN:=zH kn
 have S6:=zH s6
 clear kn s3 s4 s5 s6 k3 b4 b6 eE e3 e4
 generalize (((w2.setCell ⟨R,27,none⟩ (.slice none 0 0)).setCell ⟨R,28,none⟩ (.slice (some ⟨w2.heap.size,0,none⟩) 1 1)).alloc (.cells #[.int .i64 1] 3)).drew=w3 at *
 go_wp2_with fail
 refine KN.out.mono ?_
 rintro e w4 ⟨rfl,h4⟩
 have H4:=zH (zZ.from S6.out h4)
 clear h4
 go_wp2
 go_end0
 exact⟨rfl,by rw[EE.out];exact H4.out⟩
theorem zfq (R:Nat) (m:PM) (vn vd:Value) (P:Nat->Prop) (w:World) (h:MS w R m vn vd P) :
    Calls Tryz.prog 235 #[.pointer (some ⟨R,0,none⟩)] w (z1z w R vd P (z1f .tail m)):=by
 obtain⟨vi,vR,vP,hb,_⟩:=h.blk
 have c15:w.cell? ⟨R,15,none⟩=some (zib R m.raw):=hb.cell 15
 have f15:=hb.frozen 15
 obtain⟨m2,e2⟩:∃m2:PM,m2={ m with raw := .bare }:=⟨_,rfl⟩
 have s2:=h.st.put m2 vn 15 (.func (.func 242) #[.pointer (some ⟨R,0,none⟩)] #[]) (fun _ _ _=>by rw[e2];rfl) (by rw[e2]) (by rw[e2]) (by rw[e2]) (by rw[e2])
 obtain⟨s9,b9,d9⟩:=s2.bytes [1] #[.int .u8 1] rfl 1 rfl (by simp) (by simp)
 have kn:=z2t R m2 vn vd _ .delimited _ _ _ _ 1 [1] _ s9.ms ⟨_,_,rfl,⟨rfl,rfl⟩,trivial⟩ b9 d9 (by simp)
 try simp only[World.size_setCell,World.size_alloc]at kn s9
 have eE:z1f .tail m=m2.must [1] .delimited:=by rw[e2];rfl
 rw[eE]
 have KN:=zH kn
 have S:=zH s9
 clear kn s9 eE b9 d9 h hb e2 s2
 go_enter Tryz.func235,Tryz.ntmps235
 go_wp2_with fail
 refine KN.out.mono ?_
 rintro e w4 ⟨rfl,h4⟩
 have H4:=zH (zZ.from S.out h4)
 clear h4
 go_wp2
 go_end0
 exact⟨rfl,H4.out⟩
theorem z8Z (R:Nat) (m:PM) (vn vd:Value) (P:Nat->Prop) (w:World) (h:MS w R m vn vd P) :
    Calls Tryz.prog 264 #[.pointer (some ⟨R,0,none⟩)] w (z1z w R vd P (z1f .trailed m)):=by
 obtain⟨vi,vR,vP,hb,_⟩:=h.blk
 have c15:w.cell? ⟨R,15,none⟩=some (zib R m.raw):=hb.cell 15
 have f15:=hb.frozen 15
 obtain⟨m2,e2⟩:∃m2:PM,m2={ m with raw := .bare }:=⟨_,rfl⟩
 have s2:=h.st.put m2 vn 15 (.func (.func 242) #[.pointer (some ⟨R,0,none⟩)] #[]) (fun _ _ _=>by rw[e2];rfl) (by rw[e2]) (by rw[e2]) (by rw[e2]) (by rw[e2])
 obtain⟨s9,b9,d9⟩:=s2.bytes [0,1,1,0] #[.int .u8 0,.int .u8 1,.int .u8 1,.int .u8 0] rfl 4 rfl (by simp) (by simp)
 have kn:=z2t R m2 vn vd _ .tail _ _ _ _ 4 [0,1,1,0] _ s9.ms ⟨_,_,rfl,⟨rfl,rfl⟩,trivial⟩ b9 d9 (by simp)
 try simp only[World.size_setCell,World.size_alloc]at kn s9
 have eE:z1f .trailed m=m2.must [0,1,1,0] .tail:=by rw[e2];rfl
 rw[eE]
 have KN:=zH kn
 have S:=zH s9
 clear kn s9 eE b9 d9 h hb e2 s2
 go_enter Tryz.func264,Tryz.ntmps264
 go_wp2_with fail
 refine KN.out.mono ?_
 rintro e w4 ⟨rfl,h4⟩
 have H4:=zH (zZ.from S.out h4)
 clear h4
 go_wp2
 go_end0
 exact⟨rfl,H4.out⟩
theorem z9T (R:Nat) (m:PM) (vn vd:Value) (P:Nat->Prop) (w:World) (h:MS w R m vn vd P) :
    Calls Tryz.prog 237 #[.pointer (some ⟨R,0,none⟩)] w (z1z w R vd P (z1f .headed m)):=by
 obtain⟨vi,vR,vP,hb,_⟩:=h.blk
 have c31:w.cell? ⟨R,31,none⟩=some (.int .i64 m.f.K):=hb.cell 31
 have f31:=hb.frozen 31
 have c15:w.cell? ⟨R,15,none⟩=some (zib R m.raw):=hb.cell 15
 have f15:=hb.frozen 15
 obtain⟨m2,e2⟩:∃m2:PM,m2={ m with f:={ m.f with K:=3 } }:=⟨_,rfl⟩
 have s2:=h.st.put m2 vn 31 (.int .i64 3) (fun _ _ _=>by rw[e2];rfl) (by rw[e2]) (by rw[e2]) (by rw[e2]) (by rw[e2])
 obtain⟨m3,e3⟩:∃m3:PM,m3={ m2 with raw := .bare }:=⟨_,rfl⟩
 have s3:=s2.put m3 vn 15 (.func (.func 242) #[.pointer (some ⟨R,0,none⟩)] #[]) (fun _ _ _=>by rw[e3];rfl) (by rw[e3]) (by rw[e3]) (by rw[e3]) (by rw[e3])
 obtain⟨s9,b9,d9⟩:=s3.bytes [1,0,0,1] #[.int .u8 1,.int .u8 0,.int .u8 0,.int .u8 1] rfl 4 rfl (by simp) (by simp)
 have kn:=z2t R m3 vn vd _ .dataPart _ _ _ _ 4 [1,0,0,1] _ s9.ms ⟨_,_,rfl,⟨rfl,rfl⟩,trivial⟩ b9 d9 (by simp)
 try simp only[World.size_setCell,World.size_alloc]at kn s9
 have eE:z1f .headed m=m3.must [1,0,0,1] .dataPart:=by rw[e3,e2];rfl
 rw[eE]
 have KN:=zH kn
 have S:=zH s9
 clear kn s9 eE b9 d9 h hb e3 e2 s2 s3
 go_enter Tryz.func237,Tryz.ntmps237
 go_wp2_with fail
 refine KN.out.mono ?_
 rintro e w4 ⟨rfl,h4⟩
 have H4:=zH (zZ.from S.out h4)
 clear h4
 go_wp2
 go_end0
 exact⟨rfl,H4.out⟩
theorem zcA (R:Nat) (m:PM) (vn vd:Value) (P:Nat->Prop) (b:Nat) (w:World) (h:MS w R m vn vd P) (hx:z48 w P R b) :
    Calls Tryz.prog 226 #[.pointer (some ⟨b,0,none⟩)] w (z1z w R vd P (z1f .heads m)):=by
 have cb:w.cell? ⟨b,0,none⟩=some (.pointer (some ⟨R,0,none⟩)):=hx.2.cell 0
 obtain⟨s9,b9,d9⟩:=h.st.bytes [0,0] #[.int .u8 0,.int .u8 0] rfl 2 rfl (by simp) (by simp)
 have kn:=z2t R m vn vd _ .classic _ _ _ _ 2 [0,0] _ s9.ms ⟨_,_,rfl,⟨rfl,rfl⟩,trivial⟩ b9 d9 (by simp)
 try simp only[World.size_setCell,World.size_alloc]at kn s9
 have eE:z1f .heads m=m.must [0,0] .classic:=by rfl
 rw[eE]
 have KN:=zH kn
 have S:=zH s9
 clear kn s9 eE b9 d9 h hx
 go_enter Tryz.func226,Tryz.ntmps226
 go_wp2_with fail
 refine KN.out.mono ?_
 rintro e w4 ⟨rfl,h4⟩
 have H4:=zH (zZ.from S.out h4)
 clear h4
 go_wp2
 go_end0
 exact⟨rfl,H4.out⟩
theorem zcs (R:Nat) (m:PM) (vn vd:Value) (P:Nat->Prop) (b:Nat) (w:World) (h:MS w R m vn vd P) (hx:z48 w P R b) (hB:z0i w) :
    Calls Tryz.prog 233 #[.pointer (some ⟨b,0,none⟩)] w (z1z w R vd P (z1f .sumCl m)):=by
 have cb:w.cell? ⟨b,0,none⟩=some (.pointer (some ⟨R,0,none⟩)):=hx.2.cell 0
 have s9:=h.st
 have kn:=z4O R m vn vd P 1 .tail _ _ _ w h hB ⟨_,_,rfl,⟨rfl,rfl⟩,trivial⟩ (by omega)
 have eE:z1f .sumCl m=m.sum 1 .tail:=by rfl
 rw[eE]
 have KN:=zH kn
 have S:=zH s9
 clear kn s9 eE h hx
 go_enter Tryz.func233,Tryz.ntmps233
 go_wp2_with fail
 refine KN.out.mono ?_
 rintro e w4 ⟨rfl,h4⟩
 have H4:=zH (zZ.from S.out h4)
 clear h4
 go_wp2
 go_end0
 exact⟨rfl,H4.out⟩
theorem zc3 (R:Nat) (m:PM) (vn vd:Value) (P:Nat->Prop) (b:Nat) (w:World) (h:MS w R m vn vd P) (hx:z48 w P R b) (hB:z0i w) :
    Calls Tryz.prog 263 #[.pointer (some ⟨b,0,none⟩)] w (z1z w R vd P (z1f .sumXl m)):=by
 have cb:w.cell? ⟨b,0,none⟩=some (.pointer (some ⟨R,0,none⟩)):=hx.2.cell 0
 have s9:=h.st
 have kn:=z4O R m vn vd P 5 .trailed _ _ _ w h hB ⟨_,_,rfl,⟨rfl,rfl⟩,trivial⟩ (by omega)
 have eE:z1f .sumXl m=m.sum 5 .trailed:=by rfl
 rw[eE]
 have KN:=zH kn
 have S:=zH s9
 clear kn s9 eE h hx
 go_enter Tryz.func263,Tryz.ntmps263
 go_wp2_with fail
 refine KN.out.mono ?_
 rintro e w4 ⟨rfl,h4⟩
 have H4:=zH (zZ.from S.out h4)
 clear h4
 go_wp2
 go_end0
 exact⟨rfl,H4.out⟩
theorem z9t (R:Nat) (m:PM) (vn vd:Value) (P:Nat->Prop) (b:Nat) (w:World) (h:MS w R m vn vd P) (hx:z48 w P R b) :
    Calls Tryz.prog 245 #[.pointer (some ⟨b,0,none⟩)] w (z1z w R vd P (z1f .fdSize m)):=by
 have cb:w.cell? ⟨b,0,none⟩=some (.pointer (some ⟨R,0,none⟩)):=hx.2.cell 0
 have s9:=h.st
 have kn:=z5w R m vn vd P 4 .sized _ _ _ w h ⟨_,_,rfl,rfl,rfl⟩ (by omega) (by omega)
 have eE:z1f .fdSize m=m.num 4 (.size .sized):=by rfl
 rw[eE]
 have KN:=zH kn
 have S:=zH s9
 clear kn s9 eE h hx
 go_enter Tryz.func245,Tryz.ntmps245
 go_wp2_with fail
 refine KN.out.mono ?_
 rintro e w4 ⟨rfl,h4⟩
 have H4:=zH (zZ.from S.out h4)
 clear h4
 go_wp2
 go_end0
 exact⟨rfl,H4.out⟩
theorem z9q (R:Nat) (m:PM) (vn vd:Value) (P:Nat->Prop) (b:Nat) (w:World) (h:MS w R m vn vd P) (hx:z48 w P R b) :
    Calls Tryz.prog 255 #[.pointer (some ⟨b,0,none⟩)] w (z1z w R vd P (z1f .xlSize m)):=by
 have cb:w.cell? ⟨b,0,none⟩=some (.pointer (some ⟨R,0,none⟩)):=hx.2.cell 0
 have s9:=h.st
 have kn:=z5w R m vn vd P 11 .checked _ _ _ w h ⟨_,_,rfl,rfl,rfl⟩ (by omega) (by omega)
 have eE:z1f .xlSize m=m.num 11 (.size .checked):=by rfl
 rw[eE]
 have KN:=zH kn
 have S:=zH s9
 clear kn s9 eE h hx
 go_enter Tryz.func255,Tryz.ntmps255
 go_wp2_with fail
 refine KN.out.mono ?_
 rintro e w4 ⟨rfl,h4⟩
 have H4:=zH (zZ.from S.out h4)
 clear h4
 go_wp2
 go_end0
 exact⟨rfl,H4.out⟩
theorem zbK (R:Nat) (m:PM) (vn vd:Value) (P:Nat->Prop) (b d x:Nat) (w:World) (h:MS w R m vn vd P) (hx:z48 w P R b) (hy:zfQ w P d x) (hk:x=2\/x=3) (hB:z0i w) :
    Calls Tryz.prog 253 #[.pointer (some ⟨b,0,none⟩),.pointer (some ⟨d,0,none⟩)] w (z1z w R vd P (z1f (.sumFd x) m)):=by
 have cb:w.cell? ⟨b,0,none⟩=some (.pointer (some ⟨R,0,none⟩)):=hx.2.cell 0
 have cd:w.cell? ⟨d,0,none⟩=some (.int .i64 (x:Nat)):=hy.2.cell 0
 have s9:=h.st
 have kn:=z4O R m vn vd P x .tail _ _ _ w h hB ⟨_,_,rfl,⟨rfl,rfl⟩,trivial⟩ (by omega)
 have eE:z1f (.sumFd x) m=m.sum x .tail:=by rfl
 rw[eE]
 have KN:=zH kn
 have S:=zH s9
 clear kn s9 eE h hx hy
 go_enter Tryz.func253,Tryz.ntmps253
 go_wp2_with fail
 refine KN.out.mono ?_
 rintro e w4 ⟨rfl,h4⟩
 have H4:=zH (zZ.from S.out h4)
 clear h4
 go_wp2
 go_end0
 exact⟨rfl,H4.out⟩
theorem z8N (R:Nat) (m:PM) (vn vd:Value) (P:Nat->Prop) (b d n:Nat) (w:World) (h:MS w R m vn vd P) (hx:z48 w P R b) (hy:zfQ w P d n) (hn:n<=2048) (hB:z0i w) :
    Calls Tryz.prog 259 #[.pointer (some ⟨b,0,none⟩),.pointer (some ⟨d,0,none⟩)] w (z1z w R vd P (z1f (.headSum n) m)):=by
 have cb:w.cell? ⟨b,0,none⟩=some (.pointer (some ⟨R,0,none⟩)):=hx.2.cell 0
 have cd:w.cell? ⟨d,0,none⟩=some (.int .i64 (n:Nat)):=hy.2.cell 0
 have s9:=h.st
 have kn:=z4O R m vn vd P 4 (.vc n) _ _ _ w h hB ⟨_,_,rfl,⟨rfl,b,d,rfl,hx,hy⟩,hn⟩ (by omega)
 have eE:z1f (.headSum n) m=m.sum 4 (.vc n):=by rfl
 rw[eE]
 have KN:=zH kn
 have S:=zH s9
 clear kn s9 eE h hx hy
 go_enter Tryz.func259,Tryz.ntmps259
 go_wp2_with fail
 refine KN.out.mono ?_
 rintro e w4 ⟨rfl,h4⟩
 have H4:=zH (zZ.from S.out h4)
 clear h4
 go_wp2
 go_end0
 exact⟨rfl,H4.out⟩
theorem ziN (R:Nat) (m:PM) (vn vd:Value) (P:Nat->Prop) (b d n:Nat) (w:World) (h:MS w R m vn vd P) (hx:z48 w P R b) (hy:zfQ w P d n) (hn:n<=2048) :
    Calls Tryz.prog 260 #[.pointer (some ⟨b,0,none⟩),.pointer (some ⟨d,0,none⟩)] w (z1z w R vd P (z1f (.vc n) m)):=by
 have cb:w.cell? ⟨b,0,none⟩=some (.pointer (some ⟨R,0,none⟩)):=hx.2.cell 0
 have cd:w.cell? ⟨d,0,none⟩=some (.int .i64 (n:Nat)):=hy.2.cell 0
 have hbR:b≠R:=fun e=>h.nP b hx.1 (.inl e)
 obtain⟨s2,k2⟩:=h.st.kinds [5] #[.int .i64 5] rfl 1 rfl
 obtain⟨vi,vR,vP,hb,_⟩:=s2.ms.blk
 have c28:(w.alloc (.cells #[.int .i64 5] 3)).cell? ⟨R,28,none⟩=some vP:=hb.cell 28
 have f28:=hb.frozen 28
 have n2:Nb w (w.alloc (.cells #[.int .i64 5] 3)):=Nb.rfl.al _
 have x2:=(hx.more n2 (fun b hb=>Or.inl (b:=b=w.heap.size) hb))
 have y2:=(hy.more n2 (fun b hb=>Or.inl (b:=b=w.heap.size) hb))
 have cb2:(w.alloc (.cells #[.int .i64 5] 3)).cell? ⟨b,0,none⟩=some (.pointer (some ⟨R,0,none⟩)):=x2.2.cell 0
 have s9:=s2.putP k2
 have x9:=x2.set s2 28 (.slice (some ⟨w.heap.size,0,none⟩) 1 1)
 have y9:=y2.set s2 28 (.slice (some ⟨w.heap.size,0,none⟩) 1 1)
 obtain⟨m2,e2⟩:∃m2:PM,m2={ m with oP:=[5] }:=⟨_,rfl⟩
 rw[<- e2]at s9
 have kn:=z0c R m2 vn vd _ 8 (.vcid n) _ _ _ _ s9.ms ⟨_,_,rfl,rfl,hn,b,d,rfl,x9,y9⟩ (by omega) (by omega)
 have eE:z1f (.vc n) m=m2.num 8 (.vcid n):=by rw[e2];rfl
 rw[eE]
 have KN:=zH kn
 have S:=zH s9
 clear kn s9 eE h hx hy hb s2 k2 n2 x2 y2 x9 y9 e2
 go_enter Tryz.func260,Tryz.ntmps260
 go_wp2_with fail
 refine KN.out.mono ?_
 rintro e w4 ⟨rfl,h4⟩
 have H4:=zH (zZ.from S.out h4)
 clear h4
 go_wp2
 go_end0
 exact⟨rfl,H4.out⟩
end Go.Proofs.YtplbmlpdefpplaaGreatDoor
