/- The document's own answers of layer 11, and more. Conditions: as each says. -/
import Derived.Test.YtplbmlpdefpplaaGreatDoorFaP
import Derived.Deep.RegionWith
import Derived.Laws.EntriesVeiled
set_option maxHeartbeats 2000000
set_option maxRecDepth 100000
namespace Go.Proofs.YtplbmlpdefpplaaGreatDoor
set_option linter.unusedVariables false
set_option linter.unusedSimpArgs false
open Go.RowKit
variable {b:Nat} {t:TypeId} {u0 u1 u2:Value} {w:World}
theorem z8p (w:World) (ts:Array TypeId) (t:TypeId) (k k':IntKind) (x y:Int) :
    (Builtin.max_ ts t #[.int k x,.int k' y]).run Tryz.prog w = .ok (.int k (max x y)) w:=by
 have e:(if x < y then y else x)=max x y:=by
  rw[Int.max_def]
  split<;>split<;>omega
 simp[Builtin.max_,Builtin.max2,e]
def p3(w:World)(b:Nat)(v0 v1 v2:Value):World:=((w.setCell ⟨b,0,none⟩ v0).setCell ⟨b,1,none⟩ v1).setCell ⟨b,2,none⟩ v2
theorem zia(v0 v1 v2:Value)(h:Blk w b #[u0,u1,u2] t):Blk (p3 w b v0 v1 v2) b #[v0,v1,v2] t:=by
 have:=((h.set 0 v0).set 1 v1).set 2 v2
 simpa [p3]using this
theorem z3R{w1:World}(h:Nb w w1)(hb:w.heap.size<=b)(v0 v1 v2:Value):Nb w (p3 w1 b v0 v1 v2):=Nb.st (Nb.st (Nb.st h hb _) hb _) hb _
theorem z1o (v0 v1 v2:Value) (h:Blk w b #[u0,u1,u2] t) :
    (p3 w b v0 v1 v2).cell? ⟨b,0,none⟩=some v0/\(p3 w b v0 v1 v2).cell? ⟨b,1,none⟩=some v1/\(p3 w b v0 v1 v2).cell? ⟨b,2,none⟩=some v2:=by
 have h:=zia v0 v1 v2 h
 exact⟨h.cell 0,h.cell 1,h.cell 2⟩
theorem zh1{R:Nat}(h:Blk w R #[u0,u1,u2] t):R < w.heap.size/\w.cell? ⟨R,0,none⟩=some u0/\w.cell? ⟨R,1,none⟩=some u1/\w.cell? ⟨R,2,none⟩=some u2/\w.frozen? ⟨R,0,none⟩=false/\w.frozen? ⟨R,1,none⟩=false/\w.frozen? ⟨R,2,none⟩=false :=
 ⟨h.lt,h.cell 0,h.cell 1,h.cell 2,h.frozen 0,h.frozen 1,h.frozen 2⟩
theorem z4m(n m:Int)(w:World):Calls Tryz.prog 201 #[.int .i64 n,.int .i64 m] w fun e w'=>e = .returned (.bool (decide (0<=n)&&decide (n<=m)))/\w'=w:=by
 by_cases h:0<=n
 ·have d:decide (0<=n)=true:=decide_eq_true h
  clear h
  go_enter Tryz.func201,Tryz.ntmps201
  go_wp2
  go_ret
  exact⟨by simp[d],rfl⟩
 ·have d:decide (0<=n)=false:=decide_eq_false h
  clear h
  go_enter Tryz.func201,Tryz.ntmps201
  go_wp2
  go_ret
  exact⟨by simp[d],rfl⟩
theorem z6K(s:Fa)(w:World):Calls Tryz.prog 183 #[.agg s.cs] w fun e w'=>e = .returned (.int .i64 (z68 s:Nat))/\Nb w w':=by
 obtain⟨T,R,O⟩:=s
 have HT:=zH (fun w'=>z4m T 263 w')
 have HR:=zH (fun w'=>z4m R 255 w')
 have he:z68 ⟨T,R,O⟩=if(decide (0<=T)&&decide (T<=263))&&((decide (0<=R)&&decide (R<=255))&&(O==decide (255 < T)))then 0 else 2:=by
  simp[z68,z2D,Bool.and_assoc,and_assoc]
 rw[he]
 clear he
 generalize (decide (0<=T)&&decide (T<=263))=bT at *
 generalize (decide (0<=R)&&decide (R<=255))=bR at *
 obtain⟨d,hd⟩:∃d,decide (255 < T)=d:=⟨_,rfl⟩
 rw[hd]
 simp only[Fa.cs]
 cases bT
 ·go_enter Tryz.func183,Tryz.ntmps183
  go_wp2_with fail
  refine(HT.out _).mono ?_
  rintro e w1 ⟨rfl,rfl⟩
  go_wp2
  go_ret
  exact⟨rfl,Nb.rfl.al _⟩
 cases bR
 ·go_enter Tryz.func183,Tryz.ntmps183
  go_wp2_with fail
  refine(HT.out _).mono ?_
  rintro e w1 ⟨rfl,rfl⟩
  go_wp2_with fail
  refine(HR.out _).mono ?_
  rintro e w1 ⟨rfl,rfl⟩
  go_wp2
  go_ret
  exact⟨rfl,Nb.rfl.al _⟩
 cases O<;>cases d
 all_goals go_enter Tryz.func183,Tryz.ntmps183
 all_goals go_wp2_with fail
 all_goals refine(HT.out _).mono ?_
 all_goals rintro e w1 ⟨rfl,rfl⟩
 all_goals go_wp2_with fail
 all_goals refine(HR.out _).mono ?_
 all_goals rintro e w1 ⟨rfl,rfl⟩
 all_goals go_wp2
 all_goals go_ret
 all_goals exact⟨rfl,Nb.rfl.al _⟩
theorem z8k(s:Fa)(w:World):Calls Tryz.prog 184 #[.agg s.cs] w fun e w'=>e = .returned (.int .i64 (z2L s:Nat))/\Nb w w':=by
 obtain⟨T,R,O⟩:=s
 simp only[Fa.cs]
 cases O
 all_goals go_enter Tryz.func184,Tryz.ntmps184
 all_goals go_wp2
 all_goals go_ret
 all_goals refine⟨?_,Nb.rfl.al _⟩
 all_goals first
  | rfl
  | (simp only[z2L,Bool.false_eq_true,if_false];first | (rw[if_pos (by omega)];rfl) | (rw[if_neg (by omega)];rfl))
theorem zex(T R:Int)(O:Bool)(w:World)(h1:0<=T)(h2:T<=263):Calls Tryz.prog 213 #[.agg #[.int .i64 T,.int .i64 R,.bool O]] w fun e w'=>e = .returned (.agg #[.int .i64 (max (T - 1) 0),.int .i64 R,.bool O])/\Nb w w':=by
 have hmax:=z8p
 go_enter Tryz.func213,Tryz.ntmps213
 go_wp2
 exact bodyPost_ret (v := .agg #[.int .i64 (max (T - 1) 0),.int .i64 R,.bool O]) (by simp[results,Tryz.results213,go_sem]) rfl ⟨rfl,(Nb.rfl.al _).al _⟩
theorem zhx(T R:Int)(O:Bool)(w:World)(h1:0<=R)(h2:R<=255):Calls Tryz.prog 214 #[.agg #[.int .i64 T,.int .i64 R,.bool O]] w fun e w'=>e = .returned (.agg #[.int .i64 T,.int .i64 (if 127 < R then 120 else max (R - 1) 0),.bool O])/\Nb w w':=by
 have hmax:=z8p
 by_cases hr:127 < R
 ·have dr:decide (127 < R)=true:=decide_eq_true hr
  rw[if_pos hr]
  clear hr
  go_enter Tryz.func214,Tryz.ntmps214
  go_wp2
  exact bodyPost_ret (v := .agg #[.int .i64 T,.int .i64 120,.bool O]) (by simp[results,Tryz.results214,go_sem]) rfl ⟨rfl,(Nb.rfl.al _).al _⟩
 ·have dr:decide (127 < R)=false:=decide_eq_false hr
  rw[if_neg hr]
  clear hr
  go_enter Tryz.func214,Tryz.ntmps214
  go_wp2
  exact bodyPost_ret (v := .agg #[.int .i64 T,.int .i64 (max (R - 1) 0),.bool O]) (by simp[results,Tryz.results214,go_sem]) rfl ⟨rfl,(Nb.rfl.al _).al _⟩
theorem z3l(T R:Int)(O:Bool)(w:World)(h1:0<=T)(h2:T<=263):Calls Tryz.prog 215 #[.agg #[.int .i64 T,.int .i64 R,.bool O]] w fun e w'=>e = .returned (.agg #[.int .i64 (T+8),.int .i64 R,.bool (decide (255 < T+8))])/\Nb w w':=by
 go_enter Tryz.func215,Tryz.ntmps215
 go_wp2
 exact bodyPost_ret (v := .agg #[.int .i64 (T+8),.int .i64 R,.bool (decide (255 < T+8))]) (by simp[results,Tryz.results215,go_sem]) rfl ⟨rfl,(Nb.rfl.al _).al _⟩
theorem z6Q(T R:Int)(O:Bool)(w:World)(h1:0<=R)(h2:R<=255):Calls Tryz.prog 216 #[.agg #[.int .i64 T,.int .i64 R,.bool O]] w fun e w'=>e = .returned (.agg #[.int .i64 T,.int .i64 (min (R+1) 255),.bool O])/\Nb w w':=by
 have hmin:=z7d
 go_enter Tryz.func216,Tryz.ntmps216
 go_wp2
 exact bodyPost_ret (v := .agg #[.int .i64 T,.int .i64 (min (R+1) 255),.bool O]) (by simp[results,Tryz.results216,go_sem]) rfl ⟨rfl,(Nb.rfl.al _).al _⟩
theorem z8K(T R:Int)(O:Bool)(w:World):Calls Tryz.prog 218 #[.agg #[.int .i64 T,.int .i64 R,.bool O]] w fun e w'=>e = .returned (.agg (if O then #[.int .i64 0,.int .i64 0,.bool false]else #[.int .i64 T,.int .i64 R,.bool O]))/\Nb w w':=by
 cases O
 ·go_enter Tryz.func218,Tryz.ntmps218
  go_wp2
  exact bodyPost_ret (v := .agg #[.int .i64 T,.int .i64 R,.bool false]) (by simp[results,Tryz.results218,go_sem]) rfl ⟨rfl,(Nb.rfl.al _).al _⟩
 ·go_enter Tryz.func218,Tryz.ntmps218
  go_wp2
  exact bodyPost_ret (v := .agg #[.int .i64 0,.int .i64 0,.bool false]) (by simp[results,Tryz.results218,go_sem]) rfl ⟨rfl,(Nb.rfl.al _).al _⟩
theorem z9c(T R:Int)(w:World)(h1:0<=T)(h2:T<=255):Calls Tryz.prog 217 #[.agg #[.int .i64 T,.int .i64 R,.bool false]] w fun e w'=>e = .returned (.agg (z14 ⟨T,R,false⟩ 5).cs)/\Nb w w':=by
 have HI:=zH (fun w'=>z8k ⟨T,R,false⟩ w')
 simp only[Fa.cs]at HI
 have HS:=zH (fun w'=>z3l T R false w' h1 (by omega))
 have HQ:=zH (Blk.new w #[.int .i64 T,.int .i64 R,.bool false] 45)
 have HZ:=zH (Blk.new (w.alloc (.cells #[.int .i64 T,.int .i64 R,.bool false] 45)) #[.int .i64 0,.int .i64 0,.bool false] 45)
 by_cases hp:127 < T\/127 < R
 ·rw[show z14 ⟨T,R,false⟩ 5=⟨T,R,false⟩ by simp[z14,z2L,hp]]
  rw[show z2L ⟨T,R,false⟩=1 by simp[z2L,hp]]at HI
  simp only[Fa.cs]
  clear hp HS
  go_enter Tryz.func217,Tryz.ntmps217
  go_wp2_with fail
  refine(HI.out _).mono ?_
  rintro e w1 ⟨rfl,n1⟩
  have hq:=(HQ.out.nb (Nb.rfl.al _)).nb n1
  have hz:=HZ.out.nb n1
  rw[World.size_alloc]at hz
  obtain⟨l0,c0,c1,c2,_,_,_⟩:=zh1 hq
  obtain⟨l1,x0,x1,x2,y0,y1,y2⟩:=zh1 hz
  have M1:=zH (((Nb.rfl.al _).al _).tr n1:Nb w w1)
  have HZ1:=zH hz
  clear hq hz n1 HQ HZ
  go_wp2
  obtain⟨e0,e1,e2⟩:=z1o (.int .i64 T) (.int .i64 R) (.bool false) HZ1.out
  have nf:=z3R M1.out (b:=w.heap.size+1) (by omega) (.int .i64 T) (.int .i64 R) (.bool false)
  change bodyPost _ _ _ _ _ (p3 w1 (w.heap.size+1) (.int .i64 T) (.int .i64 R) (.bool false))
  generalize p3 w1 (w.heap.size+1) (.int .i64 T) (.int .i64 R) (.bool false)=WW at e0 e1 e2 nf ⊢
  exact bodyPost_ret (v := .agg #[.int .i64 T,.int .i64 R,.bool false]) (by simp[results,Tryz.results217,go_sem,e0,e1,e2]) rfl ⟨rfl,nf⟩
 ·rw[show z14 ⟨T,R,false⟩ 5=⟨T+8,R,decide (255 < T+8)⟩ by simp[z14,z2L,hp]]
  rw[show z2L ⟨T,R,false⟩=0 by simp[z2L,hp]]at HI
  simp only[Fa.cs]
  clear hp
  generalize decide (255 < T+8)=d at *
  generalize T+8=T' at *
  go_enter Tryz.func217,Tryz.ntmps217
  go_wp2_with fail
  refine(HI.out _).mono ?_
  rintro e w1 ⟨rfl,n1⟩
  have hq:=(HQ.out.nb (Nb.rfl.al _)).nb n1
  have hz:=HZ.out.nb n1
  rw[World.size_alloc]at hz
  obtain⟨l0,c0,c1,c2,_,_,_⟩:=zh1 hq
  have M1:=zH (((Nb.rfl.al _).al _).tr n1:Nb w w1)
  have HZ1:=zH hz
  clear hq hz n1 HQ HZ
  go_wp2_with fail
  refine(HS.out _).mono ?_
  rintro e w2 ⟨rfl,n2⟩
  have hz:=HZ1.out.nb n2
  obtain⟨l1,x0,x1,x2,y0,y1,y2⟩:=zh1 hz
  have M2:=zH (M1.out.tr n2)
  have HZ2:=zH hz
  clear hz n2 c0 c1 c2
  go_wp2
  obtain⟨e0,e1,e2⟩:=z1o (.int .i64 T') (.int .i64 R) (.bool d) HZ2.out
  have nf:=z3R M2.out (b:=w.heap.size+1) (by omega) (.int .i64 T') (.int .i64 R) (.bool d)
  change bodyPost _ _ _ _ _ (p3 w2 (w.heap.size+1) (.int .i64 T') (.int .i64 R) (.bool d))
  generalize p3 w2 (w.heap.size+1) (.int .i64 T') (.int .i64 R) (.bool d)=WW at e0 e1 e2 nf ⊢
  exact bodyPost_ret (v := .agg #[.int .i64 T',.int .i64 R,.bool d]) (by simp[results,Tryz.results217,go_sem,e0,e1,e2]) rfl ⟨rfl,nf⟩
def doV:Value := .agg #[Value.nilFunc,Value.func (Fn.func 213) #[] #[],Value.func (Fn.func 214) #[] #[],Value.func (Fn.func 215) #[] #[],Value.func (Fn.func 216) #[] #[],Value.func (Fn.func 217) #[] #[],Value.func (Fn.func 218) #[] #[]]
theorem zcz(w:World):Calls Tryz.prog 202 #[] w fun e w'=>e = .returned doV/\Nb w w':=by
 unfold doV
 go_enter Tryz.func202,Tryz.ntmps202
 go_wp2
 exact bodyPost_ret (v := .agg #[Value.nilFunc,Value.func (Fn.func 213) #[] #[],Value.func (Fn.func 214) #[] #[],Value.func (Fn.func 215) #[] #[],Value.func (Fn.func 216) #[] #[],Value.func (Fn.func 217) #[] #[],Value.func (Fn.func 218) #[] #[]]) (by simp[results,Tryz.results202,go_sem]) rfl ⟨rfl,Nb.rfl.al _⟩
theorem z2w (G:Nat) (k:Int) (hix:∀w,(Instr.index 256 doV (.int .i64 k)).run Tryz.prog w = .ok (Value.func (Fn.func G) #[] #[]) w) (hcf:∀args w,(callFunc G args).run Tryz.prog w = .ok (.enter G args) w) (T R:Int) (O:Bool) (T' R':Int) (O':Bool) (w:World) (hO:O=true->k=6)
    (hF:∀w',Calls Tryz.prog G #[.agg #[.int .i64 T,.int .i64 R,.bool O]] w' fun e w''=>e = .returned (.agg #[.int .i64 T',.int .i64 R',.bool O'])/\Nb w' w'') :
    Calls Tryz.prog 185 #[.agg #[.int .i64 T,.int .i64 R,.bool O],.int .i64 k] w fun e w'=>e = .returned (.agg #[.int .i64 T',.int .i64 R',.bool O'])/\Nb w w':=by
 have HF:=zH hF
 have HD:=zH zcz
 clear hF
 obtain⟨w0,hw0⟩:∃w0,w0=(w.alloc (.cells #[.int .i64 T,.int .i64 R,.bool O] 45)).alloc (.cells #[.int .i64 0,.int .i64 0,.bool false] 45):=⟨_,rfl⟩
 have HQ:=zH (show Blk w0 w.heap.size #[.int .i64 T,.int .i64 R,.bool O] 45 by rw[hw0];exact(Blk.new _ _ _).nb (Nb.rfl.al _))
 have HZ:=zH (show Blk w0 (w.heap.size+1) #[.int .i64 0,.int .i64 0,.bool false] 45 by
  rw[hw0]
  have:=Blk.new (w.alloc (.cells #[.int .i64 T,.int .i64 R,.bool O] 45)) #[.int .i64 0,.int .i64 0,.bool false] 45
  rw[World.size_alloc]at this
  exact this)
 have N0:=zH (show Nb w w0 by rw[hw0];exact(Nb.rfl.al _).al _)
 have HW:=zH hw0
 clear hw0
 obtain⟨q,hq⟩:∃q,(k==6)=q:=⟨_,rfl⟩
 have hq2:(k != 6) = !q:=by rw[<- hq];rfl
 have HOQ:=zH (fun h=>(by rw[<- hq,hO h];rfl:q=true))
 clear hO
 cases O
 all_goals cases q
 all_goals first | exact absurd (HOQ.out rfl) (by decide) | skip
 all_goals clear HOQ
 all_goals go_enter Tryz.func185,Tryz.ntmps185
 all_goals go_wp2_with fail
 all_goals rw[<- HW.out]
 all_goals obtain⟨l0,c0,c1,c2,_,_,_⟩:=zh1 HQ.out
 all_goals obtain⟨l1,x0,x1,x2,y0,y1,y2⟩:=zh1 HZ.out
 all_goals have NB:Hid (Nb w0 w0.drew):=zH (Nb.drewN w0 1)
 all_goals go_region_with (first
  | (go_at_call 202
     refine(HD.out _).mono ?_
     rintro e w1 ⟨rfl,n1⟩
     have NB:=zH (NB.out.tr n1)
     obtain⟨l0,c0,c1,c2,_,_,_⟩:=zh1 (HQ.out.nb NB.out)
     obtain⟨l1,x0,x1,x2,y0,y1,y2⟩:=zh1 (HZ.out.nb NB.out)
     clear n1)
  | (refine(HF.out _).mono ?_
     rintro e w2 ⟨rfl,n2⟩
     have NB:=zH (NB.out.tr n2)
     obtain⟨l1,x0,x1,x2,y0,y1,y2⟩:=zh1 (HZ.out.nb NB.out)
     clear n2))
 all_goals
  obtain⟨e0,e1,e2⟩:=z1o (.int .i64 T') (.int .i64 R') (.bool O') (HZ.out.nb NB.out)
  have nf:=z3R (N0.out.tr NB.out) (b:=w.heap.size+1) (by omega) (.int .i64 T') (.int .i64 R') (.bool O')
  go_wp2
  change bodyPost _ _ _ _ _ (p3 w2 (w.heap.size+1) (.int .i64 T') (.int .i64 R') (.bool O'))
  generalize p3 w2 (w.heap.size+1) (.int .i64 T') (.int .i64 R') (.bool O')=WW at e0 e1 e2 nf ⊢
  exact bodyPost_ret (v := .agg #[.int .i64 T',.int .i64 R',.bool O']) (by simp[results,Tryz.results185,go_sem,e0,e1,e2]) rfl ⟨rfl,nf⟩
theorem zgA(T R:Int)(e:Int)(w:World)(he:e≠6):Calls Tryz.prog 185 #[.agg #[.int .i64 T,.int .i64 R,.bool true],.int .i64 e] w fun en w'=>en = .returned (.agg #[.int .i64 T,.int .i64 R,.bool true])/\Nb w w':=by
 have d6:(e==6)=false:=by rw[beq_eq_false_iff_ne];exact he
 have d6':(e != 6)=true:=by rw[bne_iff_ne];exact he
 clear he
 go_enter Tryz.func185,Tryz.ntmps185
 go_wp2
 exact bodyPost_ret (v := .agg #[.int .i64 T,.int .i64 R,.bool true]) (by simp[results,Tryz.results185,go_sem]) rfl ⟨rfl,(Nb.rfl.al _).al _⟩
theorem z9z(s:Fa)(e:Int)(w:World)(h:z2D s=true)(he:zfN e=true):Calls Tryz.prog 185 #[.agg s.cs,.int .i64 e] w fun en w'=>en = .returned (.agg (z14 s e).cs)/\Nb w w':=by
 obtain⟨h1,h2,h3,h4,h5⟩:=(zbh s).1 h
 obtain⟨g1,g2⟩:=(z7z e).1 he
 obtain⟨T,R,O⟩:=s
 simp only at h1 h2 h3 h4 h5
 by_cases h6:e=6
 ·subst h6
  have hF:=fun w'=>z8K T R O w'
  cases O
  ·rw[show z14 ⟨T,R,false⟩ 6=⟨T,R,false⟩ by simp[z14]]
   exact z2w 218 6 (fun _=>by kernel_rfl) (hcf _ _ Tryz.func218 (by rfl) (by decide +kernel)) T R false T R false w (fun _=>rfl) hF
  ·rw[show z14 ⟨T,R,true⟩ 6=⟨0,0,false⟩ by simp[z14,Fa.zero]]
   exact z2w 218 6 (fun _=>by kernel_rfl) (hcf _ _ Tryz.func218 (by rfl) (by decide +kernel)) T R true 0 0 false w (fun _=>rfl) hF
 cases O with
 | true =>
   rw[show z14 ⟨T,R,true⟩ e=⟨T,R,true⟩ by simp[z14,h6]]
   exact zgA T R e w h6
 | false =>
   have hT:T<=255:=by
    have:¬255 < T:=by simpa using h5.symm
    omega
   have hO:(false:Bool)=true->(e:Int)=6:=fun h=>by cases h
   rcases(by omega:e=1\/e=2\/e=3\/e=4\/e=5)with rfl | rfl | rfl | rfl | rfl
   ·rw[show z14 ⟨T,R,false⟩ 1=⟨max (T - 1) 0,R,false⟩ by simp[z14,Int.max_comm]]
    exact z2w 213 1 (fun _=>by kernel_rfl) (hcf _ _ Tryz.func213 (by rfl) (by decide +kernel)) T R false _ _ _ w hO (fun w'=>zex T R false w' h1 h2)
   ·rw[show z14 ⟨T,R,false⟩ 2=⟨T,if 127 < R then 120 else max (R - 1) 0,false⟩ by simp[z14,Int.max_comm]]
    exact z2w 214 2 (fun _=>by kernel_rfl) (hcf _ _ Tryz.func214 (by rfl) (by decide +kernel)) T R false _ _ _ w hO (fun w'=>zhx T R false w' h3 h4)
   ·rw[show z14 ⟨T,R,false⟩ 3=⟨T+8,R,decide (255 < T+8)⟩ by simp[z14]]
    exact z2w 215 3 (fun _=>by kernel_rfl) (hcf _ _ Tryz.func215 (by rfl) (by decide +kernel)) T R false _ _ _ w hO (fun w'=>z3l T R false w' h1 h2)
   ·rw[show z14 ⟨T,R,false⟩ 4=⟨T,min (R+1) 255,false⟩ by simp[z14,Int.min_comm]]
    exact z2w 216 4 (fun _=>by kernel_rfl) (hcf _ _ Tryz.func216 (by rfl) (by decide +kernel)) T R false _ _ _ w hO (fun w'=>z6Q T R false w' h3 h4)
   ·exact z2w 217 5 (fun _=>by kernel_rfl) (hcf _ _ Tryz.func217 (by rfl) (by decide +kernel)) T R false _ _ _ w hO (fun w'=>z9c T R w' h1 hT)
theorem z9r(s:Fa)(w:World):Calls Tryz.prog 170 #[.agg s.cs] w fun e w'=>e = .returned (.tuple #[.int .i64 (if z2D s then z2L s else 0:Nat),.int .i64 (z68 s:Nat)])/\Nb w w':=by
 have HC:=zH (fun w'=>z6K s w')
 have HI:=zH (fun w'=>z8k s w')
 unfold z68 at HC ⊢
 have Q:=zH (Blk.new w s.cs 45)
 generalize z2L s=m at *
 generalize z2D s=ok at *
 obtain⟨T,R,O⟩:=s
 simp only[Fa.cs]at HC HI Q ⊢
 cases ok
 all_goals simp only[Bool.false_eq_true,if_false,if_true]at HC ⊢
 ·go_enter Tryz.func170,Tryz.ntmps170
  go_wp2_with fail
  refine(HC.out _).mono ?_
  rintro e w1 ⟨rfl,n1⟩
  go_wp2
  go_ret2
  exact⟨rfl,(Nb.rfl.al _).tr n1⟩
 ·go_enter Tryz.func170,Tryz.ntmps170
  go_wp2_with fail
  refine(HC.out _).mono ?_
  rintro e w1 ⟨rfl,n1⟩
  have q:=Q.out.nb n1
  have c0:w1.cell? ⟨w.heap.size,0,none⟩=some (.int .i64 T):=q.cell 0
  have c1:w1.cell? ⟨w.heap.size,1,none⟩=some (.int .i64 R):=q.cell 1
  have c2:w1.cell? ⟨w.heap.size,2,none⟩=some (.bool O):=q.cell 2
  have M1:=zH ((Nb.rfl.al _).tr n1:Nb w w1)
  clear q n1
  go_wp2_with fail
  refine(HI.out _).mono ?_
  rintro e w2 ⟨rfl,n2⟩
  go_wp2
  go_ret2
  exact⟨rfl,M1.out.tr n2⟩
theorem zam(s:Fa)(e:Int)(w:World):Calls Tryz.prog 171 #[.agg s.cs,.int .i64 e] w fun en w'=>en = .returned (.tuple #[.agg (zhw s e).cs,.int .i64 (nxE s e:Nat)])/\Nb w w':=by
 have HC:=zH (fun w'=>z6K s w')
 have HZ0:=zH (Blk.new (w.alloc (.cells s.cs 45)) #[.int .i64 0,.int .i64 0,.bool false] 45)
 have HQ0:=zH (Blk.new w s.cs 45)
 cases hok:z2D s with
 | false =>
   rw[show z68 s=2 by simp[z68,hok]]at HC
   rw[show zhw s e=Fa.zero by simp[zhw,hok],show nxE s e=2 by simp[nxE,hok]]
   clear hok
   obtain⟨T,R,O⟩:=s
   simp only[Fa.cs,Fa.zero]at HC HZ0 HQ0 ⊢
   go_enter Tryz.func171,Tryz.ntmps171
   go_wp2_with fail
   refine(HC.out _).mono ?_
   rintro en w1 ⟨rfl,n1⟩
   have hz:=HZ0.out.nb n1
   rw[World.size_alloc]at hz
   have hq:=(HQ0.out.nb (Nb.rfl.al _)).nb n1
   have y0:=hz.frozen 0
   have y1:=hz.frozen 1
   have y2:=hz.frozen 2
   have x0:w1.cell? ⟨w.heap.size+1,0,none⟩=some (.int .i64 0):=hz.cell 0
   have x1:w1.cell? ⟨w.heap.size+1,1,none⟩=some (.int .i64 0):=hz.cell 1
   have x2:w1.cell? ⟨w.heap.size+1,2,none⟩=some (.bool false):=hz.cell 2
   have c0:w1.cell? ⟨w.heap.size,0,none⟩=some (.int .i64 T):=hq.cell 0
   have c1:w1.cell? ⟨w.heap.size,1,none⟩=some (.int .i64 R):=hq.cell 1
   have c2:w1.cell? ⟨w.heap.size,2,none⟩=some (.bool O):=hq.cell 2
   have M1:=zH (((Nb.rfl.al _).al _).tr n1:Nb w w1)
   have HZ1:=zH hz
   clear hz hq n1 HZ0 HQ0
   have hb3:=HZ1.out
   have nb3:=M1.out
   obtain⟨e0,e1,e2⟩:=z1o (.int .i64 0) (.int .i64 0) (.bool false) hb3
   have nf:=z3R nb3 (b:=w.heap.size+1) (by omega) (.int .i64 0) (.int .i64 0) (.bool false)
   go_wp2
   change bodyPost _ _ _ _ _ (p3 w1 (w.heap.size+1) (.int .i64 0) (.int .i64 0) (.bool false))
   generalize p3 w1 (w.heap.size+1) (.int .i64 0) (.int .i64 0) (.bool false)=WW at e0 e1 e2 nf ⊢
   exact bodyPost_ret (v := .tuple #[.agg #[.int .i64 0,.int .i64 0,.bool false],.int .i64 2]) (by simp[results,Tryz.results171,go_sem,e0,e1,e2]) rfl ⟨rfl,nf⟩
 | true =>
   rw[show z68 s=0 by simp[z68,hok]]at HC
   cases hev:zfN e with
   | false =>
     rw[show zhw s e=Fa.zero by simp[zhw,hev],show nxE s e=2 by simp[nxE,hev]]
     have hbad:e < 1\/6 < e:=by
      have h0:¬(1<=e/\e<=6):=fun h1=>by rw[(z7z e).2 h1]at hev;cases hev
      omega
     clear hok hev
     obtain⟨T,R,O⟩:=s
     simp only[Fa.cs,Fa.zero]at HC HZ0 HQ0 ⊢
     go_enter Tryz.func171,Tryz.ntmps171
     go_wp2_with fail
     refine(HC.out _).mono ?_
     rintro en w1 ⟨rfl,n1⟩
     have hz:=HZ0.out.nb n1
     rw[World.size_alloc]at hz
     have hq:=(HQ0.out.nb (Nb.rfl.al _)).nb n1
     have y0:=hz.frozen 0
     have y1:=hz.frozen 1
     have y2:=hz.frozen 2
     have x0:w1.cell? ⟨w.heap.size+1,0,none⟩=some (.int .i64 0):=hz.cell 0
     have x1:w1.cell? ⟨w.heap.size+1,1,none⟩=some (.int .i64 0):=hz.cell 1
     have x2:w1.cell? ⟨w.heap.size+1,2,none⟩=some (.bool false):=hz.cell 2
     have c0:w1.cell? ⟨w.heap.size,0,none⟩=some (.int .i64 T):=hq.cell 0
     have c1:w1.cell? ⟨w.heap.size,1,none⟩=some (.int .i64 R):=hq.cell 1
     have c2:w1.cell? ⟨w.heap.size,2,none⟩=some (.bool O):=hq.cell 2
     have M1:=zH (((Nb.rfl.al _).al _).tr n1:Nb w w1)
     have HZ1:=zH hz
     clear hz hq n1 HZ0 HQ0
     by_cases h1:e < 1
     ·have d1:decide (e < 1)=true:=decide_eq_true h1
      clear h1 hbad
      have hb3:=HZ1.out
      have nb3:=M1.out
      obtain⟨e0,e1,e2⟩:=z1o (.int .i64 0) (.int .i64 0) (.bool false) hb3
      have nf:=z3R nb3 (b:=w.heap.size+1) (by omega) (.int .i64 0) (.int .i64 0) (.bool false)
      go_wp2
      change bodyPost _ _ _ _ _ (p3 w1 (w.heap.size+1) (.int .i64 0) (.int .i64 0) (.bool false))
      generalize p3 w1 (w.heap.size+1) (.int .i64 0) (.int .i64 0) (.bool false)=WW at e0 e1 e2 nf ⊢
      exact bodyPost_ret (v := .tuple #[.agg #[.int .i64 0,.int .i64 0,.bool false],.int .i64 2]) (by simp[results,Tryz.results171,go_sem,e0,e1,e2]) rfl ⟨rfl,nf⟩
     ·have d1:decide (e < 1)=false:=decide_eq_false h1
      have d2:decide (6 < e)=true:=decide_eq_true (by omega)
      clear h1 hbad
      have hb3:=HZ1.out
      have nb3:=M1.out
      obtain⟨e0,e1,e2⟩:=z1o (.int .i64 0) (.int .i64 0) (.bool false) hb3
      have nf:=z3R nb3 (b:=w.heap.size+1) (by omega) (.int .i64 0) (.int .i64 0) (.bool false)
      go_wp2
      change bodyPost _ _ _ _ _ (p3 w1 (w.heap.size+1) (.int .i64 0) (.int .i64 0) (.bool false))
      generalize p3 w1 (w.heap.size+1) (.int .i64 0) (.int .i64 0) (.bool false)=WW at e0 e1 e2 nf ⊢
      exact bodyPost_ret (v := .tuple #[.agg #[.int .i64 0,.int .i64 0,.bool false],.int .i64 2]) (by simp[results,Tryz.results171,go_sem,e0,e1,e2]) rfl ⟨rfl,nf⟩
   | true =>
     rw[show zhw s e=z14 s e by simp[zhw,hok,hev],show nxE s e=0 by simp[nxE,hok,hev]]
     have HDo:=zH (fun w'=>z9z s e w' hok hev)
     obtain⟨v1,v2⟩:=(z7z e).1 hev
     have d1:decide (e < 1)=false:=decide_eq_false (by omega)
     have d2:decide (6 < e)=false:=decide_eq_false (by omega)
     clear hok hev v1 v2
     generalize z14 s e=s' at *
     obtain⟨T,R,O⟩:=s
     obtain⟨T',R',O'⟩:=s'
     simp only[Fa.cs]at HC HZ0 HQ0 HDo ⊢
     go_enter Tryz.func171,Tryz.ntmps171
     go_wp2_with fail
     refine(HC.out _).mono ?_
     rintro en w1 ⟨rfl,n1⟩
     have hz:=HZ0.out.nb n1
     rw[World.size_alloc]at hz
     have hq:=(HQ0.out.nb (Nb.rfl.al _)).nb n1
     have y0:=hz.frozen 0
     have y1:=hz.frozen 1
     have y2:=hz.frozen 2
     have x0:w1.cell? ⟨w.heap.size+1,0,none⟩=some (.int .i64 0):=hz.cell 0
     have x1:w1.cell? ⟨w.heap.size+1,1,none⟩=some (.int .i64 0):=hz.cell 1
     have x2:w1.cell? ⟨w.heap.size+1,2,none⟩=some (.bool false):=hz.cell 2
     have c0:w1.cell? ⟨w.heap.size,0,none⟩=some (.int .i64 T):=hq.cell 0
     have c1:w1.cell? ⟨w.heap.size,1,none⟩=some (.int .i64 R):=hq.cell 1
     have c2:w1.cell? ⟨w.heap.size,2,none⟩=some (.bool O):=hq.cell 2
     have M1:=zH (((Nb.rfl.al _).al _).tr n1:Nb w w1)
     have HZ1:=zH hz
     clear hz hq n1 HZ0 HQ0
     go_wp2_with fail
     refine(HDo.out _).mono ?_
     rintro en w2 ⟨rfl,n2⟩
     have hz:=HZ1.out.nb n2
     clear y0 y1 y2 x0 x1 x2 c0 c1 c2
     have y0:=hz.frozen 0
     have y1:=hz.frozen 1
     have y2:=hz.frozen 2
     have x0:w2.cell? ⟨w.heap.size+1,0,none⟩=some (.int .i64 0):=hz.cell 0
     have x1:w2.cell? ⟨w.heap.size+1,1,none⟩=some (.int .i64 0):=hz.cell 1
     have x2:w2.cell? ⟨w.heap.size+1,2,none⟩=some (.bool false):=hz.cell 2
     have M2:=zH (M1.out.tr n2)
     have HZ2:=zH hz
     clear hz n2
     have hb3:=HZ2.out
     have nb3:=M2.out
     obtain⟨e0,e1,e2⟩:=z1o (.int .i64 T') (.int .i64 R') (.bool O') hb3
     have nf:=z3R nb3 (b:=w.heap.size+1) (by omega) (.int .i64 T') (.int .i64 R') (.bool O')
     go_wp2
     change bodyPost _ _ _ _ _ (p3 w2 (w.heap.size+1) (.int .i64 T') (.int .i64 R') (.bool O'))
     generalize p3 w2 (w.heap.size+1) (.int .i64 T') (.int .i64 R') (.bool O')=WW at e0 e1 e2 nf ⊢
     exact bodyPost_ret (v := .tuple #[.agg #[.int .i64 T',.int .i64 R',.bool O'],.int .i64 0]) (by simp[results,Tryz.results171,go_sem,e0,e1,e2]) rfl ⟨rfl,nf⟩
end Go.Proofs.YtplbmlpdefpplaaGreatDoor
