/- The document's own answers of layer 11: Check, Is, Does, Mode, Next. Conditions: a state that may be where it is counted. The landed package fault: what an event does. Conditions: a state that may be, an event that there is. The landed package fault: what an event does, by the array of what events do. Conditions: a state that may be, an event that there is. The landed package fault: Mode, Next. No conditions. -/
import Derived.Test.YtipefblpppmabaaGreatDoorFaP
import Derived.Test.YtipefblpppmabaaGreatDoorGa
import Derived.Deep.RegionWith
import Derived.Laws.EntriesVeiled
set_option maxHeartbeats 3200000
set_option maxRecDepth 100000
namespace Go.Proofs.YtipefblpppmabaaGreatDoor
set_option linter.unusedVariables false
set_option linter.unusedSimpArgs false
open Go.RowKit
theorem refis11_any (s:Fa) (w:World):Calls Tryz.prog 125 #[.agg s.cs] w fun e w'=>e = .returned (.int .i64 (isFa s:Nat))/\Nb w w':=by
 obtain⟨T,R,O⟩:=s
 simp only[Fa.cs]
 cases O
 all_goals go_enter Tryz.func125,Tryz.ntmps125
 all_goals go_wp2
 all_goals go_ret
 all_goals refine⟨?_,Nb.rfl.al _⟩
 all_goals first
  | rfl
  | (simp only[isFa,Bool.false_eq_true,if_false];first | (rw[if_pos (by omega)];rfl) | (rw[if_neg (by omega)];rfl))
theorem run_max2' (w:World) (ts:Array TypeId) (t:TypeId) (k k':IntKind) (x y:Int) :
    (Builtin.max_ ts t #[.int k x,.int k' y]).run Tryz.prog w = .ok (.int k (max x y)) w:=by
 have e:(if x < y then y else x)=max x y:=by
  rw[Int.max_def]
  split<;>split<;>omega
 simp[Builtin.max_,Builtin.max2,e]
def p3 (w:World) (b:Nat) (v0 v1 v2:Value):World:=((w.setCell ⟨b,0,none⟩ v0).setCell ⟨b,1,none⟩ v1).setCell ⟨b,2,none⟩ v2
theorem p3_blk {w:World} {b:Nat} {u0 u1 u2:Value} {t:TypeId} (v0 v1 v2:Value) (h:Blk w b #[u0,u1,u2] t):Blk (p3 w b v0 v1 v2) b #[v0,v1,v2] t:=by
 have:=((h.set 0 v0).set 1 v1).set 2 v2
 simpa [p3] using this
theorem p3_nb {w w1:World} {b:Nat} (h:Nb w w1) (hb:w.heap.size<=b) (v0 v1 v2:Value):Nb w (p3 w1 b v0 v1 v2):=Nb.st (Nb.st (Nb.st h hb _) hb _) hb _
theorem p3_cells {w:World} {b:Nat} {u0 u1 u2:Value} {t:TypeId} (v0 v1 v2:Value) (h:Blk w b #[u0,u1,u2] t) :
    (p3 w b v0 v1 v2).cell? ⟨b,0,none⟩=some v0/\(p3 w b v0 v1 v2).cell? ⟨b,1,none⟩=some v1/\(p3 w b v0 v1 v2).cell? ⟨b,2,none⟩=some v2:=by
 have h:=p3_blk v0 v1 v2 h
 exact⟨h.cell 0,h.cell 1,h.cell 2⟩
theorem refdo11_any (s:Fa) (e:Int) (w:World) (h:okFa s=true) (he:evOk e=true):Calls Tryz.prog 80 #[.agg s.cs,.int .i64 e] w fun en w'=>en = .returned (.agg (doFa s e).cs)/\Nb w w':=by
 obtain⟨h1,h2,h3,h4,h5⟩:=(okFa_iff s).1 h
 obtain⟨g1,g2⟩:=(evOk_iff e).1 he
 have HI:=Lib.hid (fun w'=>refis11_any s w')
 have hmax:=run_max2'
 have hmin:=run_min2
 obtain⟨T,R,O⟩:=s
 simp only at h1 h2 h3 h4 h5
 cases O with
 | true =>
   clear h5 HI h he
   by_cases h6:e=6
   ·subst h6
    rw[show doFa ⟨T,R,true⟩ 6=⟨0,0,false⟩ by simp[doFa,Fa.zero]]
    simp only[Fa.cs]
    go_enter Tryz.func80,Tryz.ntmps80
    go_wp2
    exact bodyPost_ret (v := .agg #[.int .i64 0,.int .i64 0,.bool false]) (by simp[results,Tryz.results80,go_sem]) rfl ⟨rfl,(Nb.rfl.al _).al _⟩
   ·rw[show doFa ⟨T,R,true⟩ e=⟨T,R,true⟩ by simp[doFa,h6]]
    have d6:(e==6)=false:=by rw[beq_eq_false_iff_ne];exact h6
    simp only[Fa.cs]
    clear h6
    go_enter Tryz.func80,Tryz.ntmps80
    go_wp2
    exact bodyPost_ret (v := .agg #[.int .i64 T,.int .i64 R,.bool true]) (by simp[results,Tryz.results80,go_sem]) rfl ⟨rfl,(Nb.rfl.al _).al _⟩
 | false =>
   have hT : T ≤ 255 := by have:¬255 < T:=by simpa using h5.symm
                           omega
   clear h5 he h
   rcases (by omega:e=1\/e=2\/e=3\/e=4\/e=5\/e=6) with rfl | rfl | rfl | rfl | rfl | rfl
   ·rw[show doFa ⟨T,R,false⟩ 1=⟨max 0 (T - 1),R,false⟩ by simp[doFa]]
    have dd:decide (255 < max 0 (T - 1))=false:=decide_eq_false (by omega)
    simp only[Fa.cs]
    clear HI
    go_enter Tryz.func80,Tryz.ntmps80
    go_wp2
    exact bodyPost_ret (v := .agg #[.int .i64 (max 0 (T - 1)),.int .i64 R,.bool false]) (by simp[results,Tryz.results80,go_sem]) rfl ⟨rfl,(Nb.rfl.al _).al _⟩
   ·by_cases hr:127 < R
    ·rw[show doFa ⟨T,R,false⟩ 2=⟨T,120,false⟩ by simp[doFa,hr]]
     have dr:decide (127 < R)=true:=decide_eq_true hr
     have dd:decide (255 < T)=false:=decide_eq_false (by omega)
     simp only[Fa.cs]
     clear HI hr
     go_enter Tryz.func80,Tryz.ntmps80
     go_wp2
     exact bodyPost_ret (v := .agg #[.int .i64 T,.int .i64 120,.bool false]) (by simp[results,Tryz.results80,go_sem]) rfl ⟨rfl,(Nb.rfl.al _).al _⟩
    ·rw[show doFa ⟨T,R,false⟩ 2=⟨T,max 0 (R - 1),false⟩ by simp[doFa,hr]]
     have dr:decide (127 < R)=false:=decide_eq_false hr
     have dd:decide (255 < T)=false:=decide_eq_false (by omega)
     simp only[Fa.cs]
     clear HI hr
     go_enter Tryz.func80,Tryz.ntmps80
     go_wp2
     exact bodyPost_ret (v := .agg #[.int .i64 T,.int .i64 (max 0 (R - 1)),.bool false]) (by simp[results,Tryz.results80,go_sem]) rfl ⟨rfl,(Nb.rfl.al _).al _⟩
   ·rw[show doFa ⟨T,R,false⟩ 3=⟨T+8,R,decide (255 < T+8)⟩ by simp[doFa]]
    simp only[Fa.cs]
    clear HI
    go_enter Tryz.func80,Tryz.ntmps80
    go_wp2
    exact bodyPost_ret (v := .agg #[.int .i64 (T+8),.int .i64 R,.bool (decide (255 < T+8))]) (by simp[results,Tryz.results80,go_sem]) rfl ⟨rfl,(Nb.rfl.al _).al _⟩
   ·rw[show doFa ⟨T,R,false⟩ 4=⟨T,min 255 (R+1),false⟩ by simp[doFa]]
    have dd:decide (255 < T)=false:=decide_eq_false (by omega)
    simp only[Fa.cs]
    clear HI
    go_enter Tryz.func80,Tryz.ntmps80
    go_wp2
    exact bodyPost_ret (v := .agg #[.int .i64 T,.int .i64 (min 255 (R+1)),.bool false]) (by simp[results,Tryz.results80,go_sem]) rfl ⟨rfl,(Nb.rfl.al _).al _⟩
   ·have HQ:=Lib.hid (Blk.new w #[.int .i64 T,.int .i64 R,.bool false] 45)
    have HZ:=Lib.hid (Blk.new (w.alloc (.cells #[.int .i64 T,.int .i64 R,.bool false] 45)) #[.int .i64 0,.int .i64 0,.bool false] 45)
    simp only[Fa.cs] at HI
    have dd:decide (255 < T)=false:=decide_eq_false (by omega)
    by_cases hp:127 < T\/127 < R
    ·rw[show doFa ⟨T,R,false⟩ 5=⟨T,R,false⟩ by simp[doFa,isFa,hp]]
     rw[show isFa ⟨T,R,false⟩=1 by simp[isFa,hp]] at HI
     simp only[Fa.cs]
     clear hp
     go_enter Tryz.func80,Tryz.ntmps80
     go_wp2_with fail
     refine (HI.out _).mono ?_
     rintro e w1 ⟨rfl,n1⟩
     have hq:=(HQ.out.nb (Nb.rfl.al _)).nb n1
     have hz:=HZ.out.nb n1
     rw[World.size_alloc] at hz
     have c0:w1.cell? ⟨w.heap.size,0,none⟩=some (.int .i64 T):=hq.cell 0
     have c1:w1.cell? ⟨w.heap.size,1,none⟩=some (.int .i64 R):=hq.cell 1
     have c2:w1.cell? ⟨w.heap.size,2,none⟩=some (.bool false):=hq.cell 2
     have f0:=hq.frozen 0
     have f2:=hq.frozen 2
     have x0:w1.cell? ⟨w.heap.size+1,0,none⟩=some (.int .i64 0):=hz.cell 0
     have x1:w1.cell? ⟨w.heap.size+1,1,none⟩=some (.int .i64 0):=hz.cell 1
     have x2:w1.cell? ⟨w.heap.size+1,2,none⟩=some (.bool false):=hz.cell 2
     have y0:=hz.frozen 0
     have y1:=hz.frozen 1
     have y2:=hz.frozen 2
     have M1:=Lib.hid (((Nb.rfl.al _).al _).tr n1:Nb w w1)
     have HQ1:=Lib.hid hq
     have HZ1:=Lib.hid hz
     clear hq hz n1 HQ HZ
     go_wp2
     have hb3:=HZ1.out.other (p:=⟨w.heap.size,2,none⟩) (by simp) (.bool false)
     have nb3:=Nb.st M1.out (p:=⟨w.heap.size,2,none⟩) (Nat.le_refl _) (.bool false)
     obtain⟨e0,e1,e2⟩:=p3_cells (.int .i64 T) (.int .i64 R) (.bool false) hb3
     have nf:=p3_nb nb3 (b:=w.heap.size+1) (by omega) (.int .i64 T) (.int .i64 R) (.bool false)
     change bodyPost _ _ _ _ _ (p3 (w1.setCell ⟨w.heap.size,2,none⟩ (.bool false)) (w.heap.size+1) (.int .i64 T) (.int .i64 R) (.bool false))
     generalize p3 (w1.setCell ⟨w.heap.size,2,none⟩ (.bool false)) (w.heap.size+1) (.int .i64 T) (.int .i64 R) (.bool false)=WW at e0 e1 e2 nf ⊢
     exact bodyPost_ret (v := .agg #[.int .i64 T,.int .i64 R,.bool false]) (by simp[results,Tryz.results80,go_sem,e0,e1,e2]) rfl ⟨rfl,nf⟩
    ·rw[show doFa ⟨T,R,false⟩ 5=⟨T+8,R,decide (255 < T+8)⟩ by simp[doFa,isFa,hp]]
     rw[show isFa ⟨T,R,false⟩=0 by simp[isFa,hp]] at HI
     simp only[Fa.cs]
     clear hp
     go_enter Tryz.func80,Tryz.ntmps80
     go_wp2_with fail
     refine (HI.out _).mono ?_
     rintro e w1 ⟨rfl,n1⟩
     have hq:=(HQ.out.nb (Nb.rfl.al _)).nb n1
     have hz:=HZ.out.nb n1
     rw[World.size_alloc] at hz
     have c0:w1.cell? ⟨w.heap.size,0,none⟩=some (.int .i64 T):=hq.cell 0
     have c1:w1.cell? ⟨w.heap.size,1,none⟩=some (.int .i64 R):=hq.cell 1
     have c2:w1.cell? ⟨w.heap.size,2,none⟩=some (.bool false):=hq.cell 2
     have f0:=hq.frozen 0
     have f2:=hq.frozen 2
     have x0:w1.cell? ⟨w.heap.size+1,0,none⟩=some (.int .i64 0):=hz.cell 0
     have x1:w1.cell? ⟨w.heap.size+1,1,none⟩=some (.int .i64 0):=hz.cell 1
     have x2:w1.cell? ⟨w.heap.size+1,2,none⟩=some (.bool false):=hz.cell 2
     have y0:=hz.frozen 0
     have y1:=hz.frozen 1
     have y2:=hz.frozen 2
     have M1:=Lib.hid (((Nb.rfl.al _).al _).tr n1:Nb w w1)
     have HQ1:=Lib.hid hq
     have HZ1:=Lib.hid hz
     clear hq hz n1 HQ HZ
     go_wp2
     have hb3:=(HZ1.out.other (p:=⟨w.heap.size,0,none⟩) (by simp) (.int .i64 (T+8))).other (p:=⟨w.heap.size,2,none⟩) (by simp) (.bool (decide (255 < T+8)))
     have nb3:=Nb.st (Nb.st M1.out (p:=⟨w.heap.size,0,none⟩) (Nat.le_refl _) (.int .i64 (T+8))) (p:=⟨w.heap.size,2,none⟩) (Nat.le_refl _) (.bool (decide (255 < T+8)))
     obtain⟨e0,e1,e2⟩:=p3_cells (.int .i64 (T+8)) (.int .i64 R) (.bool (decide (255 < T+8))) hb3
     have nf:=p3_nb nb3 (b:=w.heap.size+1) (by omega) (.int .i64 (T+8)) (.int .i64 R) (.bool (decide (255 < T+8)))
     change bodyPost _ _ _ _ _ (p3 ((w1.setCell ⟨w.heap.size,0,none⟩ (.int .i64 (T+8))).setCell ⟨w.heap.size,2,none⟩ (.bool (decide (255 < T+8)))) (w.heap.size+1) (.int .i64 (T+8)) (.int .i64 R) (.bool (decide (255 < T+8))))
     generalize p3 ((w1.setCell ⟨w.heap.size,0,none⟩ (.int .i64 (T+8))).setCell ⟨w.heap.size,2,none⟩ (.bool (decide (255 < T+8)))) (w.heap.size+1) (.int .i64 (T+8)) (.int .i64 R) (.bool (decide (255 < T+8)))=WW at e0 e1 e2 nf ⊢
     exact bodyPost_ret (v := .agg #[.int .i64 (T+8),.int .i64 R,.bool (decide (255 < T+8))]) (by simp[results,Tryz.results80,go_sem,e0,e1,e2]) rfl ⟨rfl,nf⟩
   ·rw[show doFa ⟨T,R,false⟩ 6=⟨T,R,false⟩ by simp[doFa]]
    have dd:decide (255 < T)=false:=decide_eq_false (by omega)
    simp only[Fa.cs]
    clear HI
    go_enter Tryz.func80,Tryz.ntmps80
    go_wp2
    exact bodyPost_ret (v := .agg #[.int .i64 T,.int .i64 R,.bool false]) (by simp[results,Tryz.results80,go_sem]) rfl ⟨rfl,(Nb.rfl.al _).al _⟩
end Go.Proofs.YtipefblpppmabaaGreatDoor
namespace Go.Proofs.YtipefblpppmabaaGreatDoor
set_option linter.unusedVariables false
set_option linter.unusedSimpArgs false
open Go.RowKit
theorem blk3 {w:World} {R:Nat} {u0 u1 u2:Value} {t:TypeId} (h:Blk w R #[u0,u1,u2] t):R < w.heap.size/\w.cell? ⟨R,0,none⟩=some u0/\w.cell? ⟨R,1,none⟩=some u1/\w.cell? ⟨R,2,none⟩=some u2/\w.frozen? ⟨R,0,none⟩=false/\w.frozen? ⟨R,1,none⟩=false/\w.frozen? ⟨R,2,none⟩=false :=
 ⟨h.lt,h.cell 0,h.cell 1,h.cell 2,h.frozen 0,h.frozen 1,h.frozen 2⟩
theorem within11_any (n m:Int) (w:World):Calls Tryz.prog 50 #[.int .i64 n,.int .i64 m] w fun e w'=>e = .returned (.bool (decide (0<=n)&&decide (n<=m)))/\w'=w:=by
 by_cases h:0<=n
 ·have d:decide (0<=n)=true:=decide_eq_true h
  clear h
  go_enter Tryz.func50,Tryz.ntmps50
  go_wp2
  go_ret
  exact⟨by simp[d],rfl⟩
 ·have d:decide (0<=n)=false:=decide_eq_false h
  clear h
  go_enter Tryz.func50,Tryz.ntmps50
  go_wp2
  go_ret
  exact⟨by simp[d],rfl⟩
theorem fchk11_any (s:Fa) (w:World):Calls Tryz.prog 33 #[.agg s.cs] w fun e w'=>e = .returned (.int .i64 (errFa s:Nat))/\Nb w w':=by
 obtain⟨T,R,O⟩:=s
 have HT:=Lib.hid (fun w'=>within11_any T 263 w')
 have HR:=Lib.hid (fun w'=>within11_any R 255 w')
 have he:errFa ⟨T,R,O⟩=if (decide (0<=T)&&decide (T<=263))&&((decide (0<=R)&&decide (R<=255))&&(O==decide (255 < T))) then 0 else 2:=by
  simp[errFa,okFa,Bool.and_assoc,and_assoc]
 rw[he]
 clear he
 generalize (decide (0<=T)&&decide (T<=263))=bT at *
 generalize (decide (0<=R)&&decide (R<=255))=bR at *
 obtain⟨d,hd⟩:∃ d,decide (255 < T)=d:=⟨_,rfl⟩
 rw[hd]
 simp only[Fa.cs]
 cases bT
 ·go_enter Tryz.func33,Tryz.ntmps33
  go_wp2_with fail
  refine (HT.out _).mono ?_
  rintro e w1 ⟨rfl,rfl⟩
  go_wp2
  go_ret
  exact⟨rfl,Nb.rfl.al _⟩
 cases bR
 ·go_enter Tryz.func33,Tryz.ntmps33
  go_wp2_with fail
  refine (HT.out _).mono ?_
  rintro e w1 ⟨rfl,rfl⟩
  go_wp2_with fail
  refine (HR.out _).mono ?_
  rintro e w1 ⟨rfl,rfl⟩
  go_wp2
  go_ret
  exact⟨rfl,Nb.rfl.al _⟩
 cases O<;>cases d
 all_goals go_enter Tryz.func33,Tryz.ntmps33
 all_goals go_wp2_with fail
 all_goals refine (HT.out _).mono ?_
 all_goals rintro e w1 ⟨rfl,rfl⟩
 all_goals go_wp2_with fail
 all_goals refine (HR.out _).mono ?_
 all_goals rintro e w1 ⟨rfl,rfl⟩
 all_goals go_wp2
 all_goals go_ret
 all_goals exact⟨rfl,Nb.rfl.al _⟩
theorem fis11_any (s:Fa) (w:World):Calls Tryz.prog 158 #[.agg s.cs] w fun e w'=>e = .returned (.int .i64 (isFa s:Nat))/\Nb w w':=by
 obtain⟨T,R,O⟩:=s
 simp only[Fa.cs]
 cases O
 all_goals go_enter Tryz.func158,Tryz.ntmps158
 all_goals go_wp2
 all_goals go_ret
 all_goals refine⟨?_,Nb.rfl.al _⟩
 all_goals first
  | rfl
  | (simp only[isFa,Bool.false_eq_true,if_false];first | (rw[if_pos (by omega)];rfl) | (rw[if_neg (by omega)];rfl))
theorem fsent_any (T R:Int) (O:Bool) (w:World) (h1:0<=T) (h2:T<=263):Calls Tryz.prog 202 #[.agg #[.int .i64 T,.int .i64 R,.bool O]] w fun e w'=>e = .returned (.agg #[.int .i64 (max (T - 1) 0),.int .i64 R,.bool O])/\Nb w w':=by
 have hmax:=run_max2'
 go_enter Tryz.func202,Tryz.ntmps202
 go_wp2
 exact bodyPost_ret (v := .agg #[.int .i64 (max (T - 1) 0),.int .i64 R,.bool O]) (by simp[results,Tryz.results202,go_sem]) rfl ⟨rfl,(Nb.rfl.al _).al _⟩
theorem fgot_any (T R:Int) (O:Bool) (w:World) (h1:0<=R) (h2:R<=255):Calls Tryz.prog 203 #[.agg #[.int .i64 T,.int .i64 R,.bool O]] w fun e w'=>e = .returned (.agg #[.int .i64 T,.int .i64 (if 127 < R then 120 else max (R - 1) 0),.bool O])/\Nb w w':=by
 have hmax:=run_max2'
 by_cases hr:127 < R
 ·have dr:decide (127 < R)=true:=decide_eq_true hr
  rw[if_pos hr]
  clear hr
  go_enter Tryz.func203,Tryz.ntmps203
  go_wp2
  exact bodyPost_ret (v := .agg #[.int .i64 T,.int .i64 120,.bool O]) (by simp[results,Tryz.results203,go_sem]) rfl ⟨rfl,(Nb.rfl.al _).al _⟩
 ·have dr:decide (127 < R)=false:=decide_eq_false hr
  rw[if_neg hr]
  clear hr
  go_enter Tryz.func203,Tryz.ntmps203
  go_wp2
  exact bodyPost_ret (v := .agg #[.int .i64 T,.int .i64 (max (R - 1) 0),.bool O]) (by simp[results,Tryz.results203,go_sem]) rfl ⟨rfl,(Nb.rfl.al _).al _⟩
theorem fsendError_any (T R:Int) (O:Bool) (w:World) (h1:0<=T) (h2:T<=263):Calls Tryz.prog 204 #[.agg #[.int .i64 T,.int .i64 R,.bool O]] w fun e w'=>e = .returned (.agg #[.int .i64 (T+8),.int .i64 R,.bool (decide (255 < T+8))])/\Nb w w':=by
 go_enter Tryz.func204,Tryz.ntmps204
 go_wp2
 exact bodyPost_ret (v := .agg #[.int .i64 (T+8),.int .i64 R,.bool (decide (255 < T+8))]) (by simp[results,Tryz.results204,go_sem]) rfl ⟨rfl,(Nb.rfl.al _).al _⟩
theorem fgetError_any (T R:Int) (O:Bool) (w:World) (h1:0<=R) (h2:R<=255):Calls Tryz.prog 205 #[.agg #[.int .i64 T,.int .i64 R,.bool O]] w fun e w'=>e = .returned (.agg #[.int .i64 T,.int .i64 (min (R+1) 255),.bool O])/\Nb w w':=by
 have hmin:=run_min2
 go_enter Tryz.func205,Tryz.ntmps205
 go_wp2
 exact bodyPost_ret (v := .agg #[.int .i64 T,.int .i64 (min (R+1) 255),.bool O]) (by simp[results,Tryz.results205,go_sem]) rfl ⟨rfl,(Nb.rfl.al _).al _⟩
theorem frestart_any (T R:Int) (O:Bool) (w:World):Calls Tryz.prog 207 #[.agg #[.int .i64 T,.int .i64 R,.bool O]] w fun e w'=>e = .returned (.agg (if O then #[.int .i64 0,.int .i64 0,.bool false] else #[.int .i64 T,.int .i64 R,.bool O]))/\Nb w w':=by
 cases O
 ·go_enter Tryz.func207,Tryz.ntmps207
  go_wp2
  exact bodyPost_ret (v := .agg #[.int .i64 T,.int .i64 R,.bool false]) (by simp[results,Tryz.results207,go_sem]) rfl ⟨rfl,(Nb.rfl.al _).al _⟩
 ·go_enter Tryz.func207,Tryz.ntmps207
  go_wp2
  exact bodyPost_ret (v := .agg #[.int .i64 0,.int .i64 0,.bool false]) (by simp[results,Tryz.results207,go_sem]) rfl ⟨rfl,(Nb.rfl.al _).al _⟩
theorem funheard_any (T R:Int) (w:World) (h1:0<=T) (h2:T<=255):Calls Tryz.prog 206 #[.agg #[.int .i64 T,.int .i64 R,.bool false]] w fun e w'=>e = .returned (.agg (doFa ⟨T,R,false⟩ 5).cs)/\Nb w w':=by
 have HI:=Lib.hid (fun w'=>fis11_any ⟨T,R,false⟩ w')
 simp only[Fa.cs] at HI
 have HS:=Lib.hid (fun w'=>fsendError_any T R false w' h1 (by omega))
 have HQ:=Lib.hid (Blk.new w #[.int .i64 T,.int .i64 R,.bool false] 49)
 have HZ:=Lib.hid (Blk.new (w.alloc (.cells #[.int .i64 T,.int .i64 R,.bool false] 49)) #[.int .i64 0,.int .i64 0,.bool false] 49)
 by_cases hp:127 < T\/127 < R
 ·rw[show doFa ⟨T,R,false⟩ 5=⟨T,R,false⟩ by simp[doFa,isFa,hp]]
  rw[show isFa ⟨T,R,false⟩=1 by simp[isFa,hp]] at HI
  simp only[Fa.cs]
  clear hp HS
  go_enter Tryz.func206,Tryz.ntmps206
  go_wp2_with fail
  refine (HI.out _).mono ?_
  rintro e w1 ⟨rfl,n1⟩
  have hq:=(HQ.out.nb (Nb.rfl.al _)).nb n1
  have hz:=HZ.out.nb n1
  rw[World.size_alloc] at hz
  obtain⟨l0,c0,c1,c2,_,_,_⟩:=blk3 hq
  obtain⟨l1,x0,x1,x2,y0,y1,y2⟩:=blk3 hz
  have M1:=Lib.hid (((Nb.rfl.al _).al _).tr n1:Nb w w1)
  have HZ1:=Lib.hid hz
  clear hq hz n1 HQ HZ
  go_wp2
  obtain⟨e0,e1,e2⟩:=p3_cells (.int .i64 T) (.int .i64 R) (.bool false) HZ1.out
  have nf:=p3_nb M1.out (b:=w.heap.size+1) (by omega) (.int .i64 T) (.int .i64 R) (.bool false)
  change bodyPost _ _ _ _ _ (p3 w1 (w.heap.size+1) (.int .i64 T) (.int .i64 R) (.bool false))
  generalize p3 w1 (w.heap.size+1) (.int .i64 T) (.int .i64 R) (.bool false)=WW at e0 e1 e2 nf ⊢
  exact bodyPost_ret (v := .agg #[.int .i64 T,.int .i64 R,.bool false]) (by simp[results,Tryz.results206,go_sem,e0,e1,e2]) rfl ⟨rfl,nf⟩
 ·rw[show doFa ⟨T,R,false⟩ 5=⟨T+8,R,decide (255 < T+8)⟩ by simp[doFa,isFa,hp]]
  rw[show isFa ⟨T,R,false⟩=0 by simp[isFa,hp]] at HI
  simp only[Fa.cs]
  clear hp
  generalize decide (255 < T+8)=d at *
  generalize T+8=T' at *
  go_enter Tryz.func206,Tryz.ntmps206
  go_wp2_with fail
  refine (HI.out _).mono ?_
  rintro e w1 ⟨rfl,n1⟩
  have hq:=(HQ.out.nb (Nb.rfl.al _)).nb n1
  have hz:=HZ.out.nb n1
  rw[World.size_alloc] at hz
  obtain⟨l0,c0,c1,c2,_,_,_⟩:=blk3 hq
  have M1:=Lib.hid (((Nb.rfl.al _).al _).tr n1:Nb w w1)
  have HZ1:=Lib.hid hz
  clear hq hz n1 HQ HZ
  go_wp2_with fail
  refine (HS.out _).mono ?_
  rintro e w2 ⟨rfl,n2⟩
  have hz:=HZ1.out.nb n2
  obtain⟨l1,x0,x1,x2,y0,y1,y2⟩:=blk3 hz
  have M2:=Lib.hid (M1.out.tr n2)
  have HZ2:=Lib.hid hz
  clear hz n2 c0 c1 c2
  go_wp2
  obtain⟨e0,e1,e2⟩:=p3_cells (.int .i64 T') (.int .i64 R) (.bool d) HZ2.out
  have nf:=p3_nb M2.out (b:=w.heap.size+1) (by omega) (.int .i64 T') (.int .i64 R) (.bool d)
  change bodyPost _ _ _ _ _ (p3 w2 (w.heap.size+1) (.int .i64 T') (.int .i64 R) (.bool d))
  generalize p3 w2 (w.heap.size+1) (.int .i64 T') (.int .i64 R) (.bool d)=WW at e0 e1 e2 nf ⊢
  exact bodyPost_ret (v := .agg #[.int .i64 T',.int .i64 R,.bool d]) (by simp[results,Tryz.results206,go_sem,e0,e1,e2]) rfl ⟨rfl,nf⟩
end Go.Proofs.YtipefblpppmabaaGreatDoor
namespace Go.Proofs.YtipefblpppmabaaGreatDoor
set_option linter.unusedVariables false
set_option linter.unusedSimpArgs false
open Go.RowKit
def doV:Value := .agg #[Value.nilFunc,Value.func (Fn.func 202) #[] #[],Value.func (Fn.func 203) #[] #[],Value.func (Fn.func 204) #[] #[],Value.func (Fn.func 205) #[] #[],Value.func (Fn.func 206) #[] #[],Value.func (Fn.func 207) #[] #[]]
theorem doings_any (w:World):Calls Tryz.prog 185 #[] w fun e w'=>e = .returned doV/\Nb w w':=by
 unfold doV
 go_enter Tryz.func185,Tryz.ntmps185
 go_wp2
 exact bodyPost_ret (v := .agg #[Value.nilFunc,Value.func (Fn.func 202) #[] #[],Value.func (Fn.func 203) #[] #[],Value.func (Fn.func 204) #[] #[],Value.func (Fn.func 205) #[] #[],Value.func (Fn.func 206) #[] #[],Value.func (Fn.func 207) #[] #[]]) (by simp[results,Tryz.results185,go_sem]) rfl ⟨rfl,Nb.rfl.al _⟩
theorem index_do1 (w:World):(Instr.index 200 doV (.int .i64 1)).run Tryz.prog w = .ok (Value.func (Fn.func 202) #[] #[]) w:=by kernel_rfl
theorem cf_sent:∀ args w,(callFunc 202 args).run Tryz.prog w = .ok (.enter 202 args) w:=hcf _ _ Tryz.func202 (by rfl) (by decide +kernel)
theorem fbehind1 (T R:Int) (O:Bool) (T' R':Int) (O':Bool) (w:World) (hO:O=true->(1:Int)=6)
    (hF:∀ w',Calls Tryz.prog 202 #[.agg #[.int .i64 T,.int .i64 R,.bool O]] w' fun e w''=>e = .returned (.agg #[.int .i64 T',.int .i64 R',.bool O'])/\Nb w' w'') :
    Calls Tryz.prog 159 #[.agg #[.int .i64 T,.int .i64 R,.bool O],.int .i64 1] w fun e w'=>e = .returned (.agg #[.int .i64 T',.int .i64 R',.bool O'])/\Nb w w':=by
 have HF:=Lib.hid hF
 have HD:=Lib.hid doings_any
 have hix:=index_do1
 have hcf:=cf_sent
 clear hF
 obtain⟨w0,hw0⟩:∃ w0,w0=(w.alloc (.cells #[.int .i64 T,.int .i64 R,.bool O] 49)).alloc (.cells #[.int .i64 0,.int .i64 0,.bool false] 49):=⟨_,rfl⟩
 have HQ:=Lib.hid (show Blk w0 w.heap.size #[.int .i64 T,.int .i64 R,.bool O] 49 by rw[hw0];exact (Blk.new _ _ _).nb (Nb.rfl.al _))
 have HZ:=Lib.hid (show Blk w0 (w.heap.size+1) #[.int .i64 0,.int .i64 0,.bool false] 49 by
  rw[hw0]
  have:=Blk.new (w.alloc (.cells #[.int .i64 T,.int .i64 R,.bool O] 49)) #[.int .i64 0,.int .i64 0,.bool false] 49
  rw[World.size_alloc] at this
  exact this)
 have N0:=Lib.hid (show Nb w w0 by rw[hw0];exact (Nb.rfl.al _).al _)
 have HW:=Lib.hid hw0
 clear hw0
 cases O
 all_goals first | (exfalso;have:=hO rfl;omega) | skip
 all_goals clear hO
 all_goals go_enter Tryz.func159,Tryz.ntmps159
 all_goals go_wp2_with fail
 all_goals rw[<- HW.out]
 all_goals obtain⟨l0,c0,c1,c2,_,_,_⟩:=blk3 HQ.out
 all_goals obtain⟨l1,x0,x1,x2,y0,y1,y2⟩:=blk3 HZ.out
 all_goals have NB:Hid (Nb w0 w0.drew):=Lib.hid (Nb.drewN w0 1)
 all_goals go_region_with (first
  | (go_at_call 185
     refine (HD.out _).mono ?_
     rintro e w1 ⟨rfl,n1⟩
     have NB:=Lib.hid (NB.out.tr n1)
     obtain⟨l0,c0,c1,c2,_,_,_⟩:=blk3 (HQ.out.nb NB.out)
     obtain⟨l1,x0,x1,x2,y0,y1,y2⟩:=blk3 (HZ.out.nb NB.out)
     clear n1)
  | (go_at_call 202
     refine (HF.out _).mono ?_
     rintro e w2 ⟨rfl,n2⟩
     have NB:=Lib.hid (NB.out.tr n2)
     obtain⟨l1,x0,x1,x2,y0,y1,y2⟩:=blk3 (HZ.out.nb NB.out)
     clear n2))
 all_goals
  obtain⟨e0,e1,e2⟩:=p3_cells (.int .i64 T') (.int .i64 R') (.bool O') (HZ.out.nb NB.out)
  have nf:=p3_nb (N0.out.tr NB.out) (b:=w.heap.size+1) (by omega) (.int .i64 T') (.int .i64 R') (.bool O')
  go_wp2
  change bodyPost _ _ _ _ _ (p3 w2 (w.heap.size+1) (.int .i64 T') (.int .i64 R') (.bool O'))
  generalize p3 w2 (w.heap.size+1) (.int .i64 T') (.int .i64 R') (.bool O')=WW at e0 e1 e2 nf ⊢
  exact bodyPost_ret (v := .agg #[.int .i64 T',.int .i64 R',.bool O']) (by simp[results,Tryz.results159,go_sem,e0,e1,e2]) rfl ⟨rfl,nf⟩
theorem index_do2 (w:World):(Instr.index 200 doV (.int .i64 2)).run Tryz.prog w = .ok (Value.func (Fn.func 203) #[] #[]) w:=by kernel_rfl
theorem cf_got:∀ args w,(callFunc 203 args).run Tryz.prog w = .ok (.enter 203 args) w:=hcf _ _ Tryz.func203 (by rfl) (by decide +kernel)
theorem fbehind2 (T R:Int) (O:Bool) (T' R':Int) (O':Bool) (w:World) (hO:O=true->(2:Int)=6)
    (hF:∀ w',Calls Tryz.prog 203 #[.agg #[.int .i64 T,.int .i64 R,.bool O]] w' fun e w''=>e = .returned (.agg #[.int .i64 T',.int .i64 R',.bool O'])/\Nb w' w'') :
    Calls Tryz.prog 159 #[.agg #[.int .i64 T,.int .i64 R,.bool O],.int .i64 2] w fun e w'=>e = .returned (.agg #[.int .i64 T',.int .i64 R',.bool O'])/\Nb w w':=by
 have HF:=Lib.hid hF
 have HD:=Lib.hid doings_any
 have hix:=index_do2
 have hcf:=cf_got
 clear hF
 obtain⟨w0,hw0⟩:∃ w0,w0=(w.alloc (.cells #[.int .i64 T,.int .i64 R,.bool O] 49)).alloc (.cells #[.int .i64 0,.int .i64 0,.bool false] 49):=⟨_,rfl⟩
 have HQ:=Lib.hid (show Blk w0 w.heap.size #[.int .i64 T,.int .i64 R,.bool O] 49 by rw[hw0];exact (Blk.new _ _ _).nb (Nb.rfl.al _))
 have HZ:=Lib.hid (show Blk w0 (w.heap.size+1) #[.int .i64 0,.int .i64 0,.bool false] 49 by
  rw[hw0]
  have:=Blk.new (w.alloc (.cells #[.int .i64 T,.int .i64 R,.bool O] 49)) #[.int .i64 0,.int .i64 0,.bool false] 49
  rw[World.size_alloc] at this
  exact this)
 have N0:=Lib.hid (show Nb w w0 by rw[hw0];exact (Nb.rfl.al _).al _)
 have HW:=Lib.hid hw0
 clear hw0
 cases O
 all_goals first | (exfalso;have:=hO rfl;omega) | skip
 all_goals clear hO
 all_goals go_enter Tryz.func159,Tryz.ntmps159
 all_goals go_wp2_with fail
 all_goals rw[<- HW.out]
 all_goals obtain⟨l0,c0,c1,c2,_,_,_⟩:=blk3 HQ.out
 all_goals obtain⟨l1,x0,x1,x2,y0,y1,y2⟩:=blk3 HZ.out
 all_goals have NB:Hid (Nb w0 w0.drew):=Lib.hid (Nb.drewN w0 1)
 all_goals go_region_with (first
  | (go_at_call 185
     refine (HD.out _).mono ?_
     rintro e w1 ⟨rfl,n1⟩
     have NB:=Lib.hid (NB.out.tr n1)
     obtain⟨l0,c0,c1,c2,_,_,_⟩:=blk3 (HQ.out.nb NB.out)
     obtain⟨l1,x0,x1,x2,y0,y1,y2⟩:=blk3 (HZ.out.nb NB.out)
     clear n1)
  | (go_at_call 203
     refine (HF.out _).mono ?_
     rintro e w2 ⟨rfl,n2⟩
     have NB:=Lib.hid (NB.out.tr n2)
     obtain⟨l1,x0,x1,x2,y0,y1,y2⟩:=blk3 (HZ.out.nb NB.out)
     clear n2))
 all_goals
  obtain⟨e0,e1,e2⟩:=p3_cells (.int .i64 T') (.int .i64 R') (.bool O') (HZ.out.nb NB.out)
  have nf:=p3_nb (N0.out.tr NB.out) (b:=w.heap.size+1) (by omega) (.int .i64 T') (.int .i64 R') (.bool O')
  go_wp2
  change bodyPost _ _ _ _ _ (p3 w2 (w.heap.size+1) (.int .i64 T') (.int .i64 R') (.bool O'))
  generalize p3 w2 (w.heap.size+1) (.int .i64 T') (.int .i64 R') (.bool O')=WW at e0 e1 e2 nf ⊢
  exact bodyPost_ret (v := .agg #[.int .i64 T',.int .i64 R',.bool O']) (by simp[results,Tryz.results159,go_sem,e0,e1,e2]) rfl ⟨rfl,nf⟩
theorem index_do3 (w:World):(Instr.index 200 doV (.int .i64 3)).run Tryz.prog w = .ok (Value.func (Fn.func 204) #[] #[]) w:=by kernel_rfl
theorem cf_sendError:∀ args w,(callFunc 204 args).run Tryz.prog w = .ok (.enter 204 args) w:=hcf _ _ Tryz.func204 (by rfl) (by decide +kernel)
theorem fbehind3 (T R:Int) (O:Bool) (T' R':Int) (O':Bool) (w:World) (hO:O=true->(3:Int)=6)
    (hF:∀ w',Calls Tryz.prog 204 #[.agg #[.int .i64 T,.int .i64 R,.bool O]] w' fun e w''=>e = .returned (.agg #[.int .i64 T',.int .i64 R',.bool O'])/\Nb w' w'') :
    Calls Tryz.prog 159 #[.agg #[.int .i64 T,.int .i64 R,.bool O],.int .i64 3] w fun e w'=>e = .returned (.agg #[.int .i64 T',.int .i64 R',.bool O'])/\Nb w w':=by
 have HF:=Lib.hid hF
 have HD:=Lib.hid doings_any
 have hix:=index_do3
 have hcf:=cf_sendError
 clear hF
 obtain⟨w0,hw0⟩:∃ w0,w0=(w.alloc (.cells #[.int .i64 T,.int .i64 R,.bool O] 49)).alloc (.cells #[.int .i64 0,.int .i64 0,.bool false] 49):=⟨_,rfl⟩
 have HQ:=Lib.hid (show Blk w0 w.heap.size #[.int .i64 T,.int .i64 R,.bool O] 49 by rw[hw0];exact (Blk.new _ _ _).nb (Nb.rfl.al _))
 have HZ:=Lib.hid (show Blk w0 (w.heap.size+1) #[.int .i64 0,.int .i64 0,.bool false] 49 by
  rw[hw0]
  have:=Blk.new (w.alloc (.cells #[.int .i64 T,.int .i64 R,.bool O] 49)) #[.int .i64 0,.int .i64 0,.bool false] 49
  rw[World.size_alloc] at this
  exact this)
 have N0:=Lib.hid (show Nb w w0 by rw[hw0];exact (Nb.rfl.al _).al _)
 have HW:=Lib.hid hw0
 clear hw0
 cases O
 all_goals first | (exfalso;have:=hO rfl;omega) | skip
 all_goals clear hO
 all_goals go_enter Tryz.func159,Tryz.ntmps159
 all_goals go_wp2_with fail
 all_goals rw[<- HW.out]
 all_goals obtain⟨l0,c0,c1,c2,_,_,_⟩:=blk3 HQ.out
 all_goals obtain⟨l1,x0,x1,x2,y0,y1,y2⟩:=blk3 HZ.out
 all_goals have NB:Hid (Nb w0 w0.drew):=Lib.hid (Nb.drewN w0 1)
 all_goals go_region_with (first
  | (go_at_call 185
     refine (HD.out _).mono ?_
     rintro e w1 ⟨rfl,n1⟩
     have NB:=Lib.hid (NB.out.tr n1)
     obtain⟨l0,c0,c1,c2,_,_,_⟩:=blk3 (HQ.out.nb NB.out)
     obtain⟨l1,x0,x1,x2,y0,y1,y2⟩:=blk3 (HZ.out.nb NB.out)
     clear n1)
  | (go_at_call 204
     refine (HF.out _).mono ?_
     rintro e w2 ⟨rfl,n2⟩
     have NB:=Lib.hid (NB.out.tr n2)
     obtain⟨l1,x0,x1,x2,y0,y1,y2⟩:=blk3 (HZ.out.nb NB.out)
     clear n2))
 all_goals
  obtain⟨e0,e1,e2⟩:=p3_cells (.int .i64 T') (.int .i64 R') (.bool O') (HZ.out.nb NB.out)
  have nf:=p3_nb (N0.out.tr NB.out) (b:=w.heap.size+1) (by omega) (.int .i64 T') (.int .i64 R') (.bool O')
  go_wp2
  change bodyPost _ _ _ _ _ (p3 w2 (w.heap.size+1) (.int .i64 T') (.int .i64 R') (.bool O'))
  generalize p3 w2 (w.heap.size+1) (.int .i64 T') (.int .i64 R') (.bool O')=WW at e0 e1 e2 nf ⊢
  exact bodyPost_ret (v := .agg #[.int .i64 T',.int .i64 R',.bool O']) (by simp[results,Tryz.results159,go_sem,e0,e1,e2]) rfl ⟨rfl,nf⟩
theorem index_do4 (w:World):(Instr.index 200 doV (.int .i64 4)).run Tryz.prog w = .ok (Value.func (Fn.func 205) #[] #[]) w:=by kernel_rfl
theorem cf_getError:∀ args w,(callFunc 205 args).run Tryz.prog w = .ok (.enter 205 args) w:=hcf _ _ Tryz.func205 (by rfl) (by decide +kernel)
theorem fbehind4 (T R:Int) (O:Bool) (T' R':Int) (O':Bool) (w:World) (hO:O=true->(4:Int)=6)
    (hF:∀ w',Calls Tryz.prog 205 #[.agg #[.int .i64 T,.int .i64 R,.bool O]] w' fun e w''=>e = .returned (.agg #[.int .i64 T',.int .i64 R',.bool O'])/\Nb w' w'') :
    Calls Tryz.prog 159 #[.agg #[.int .i64 T,.int .i64 R,.bool O],.int .i64 4] w fun e w'=>e = .returned (.agg #[.int .i64 T',.int .i64 R',.bool O'])/\Nb w w':=by
 have HF:=Lib.hid hF
 have HD:=Lib.hid doings_any
 have hix:=index_do4
 have hcf:=cf_getError
 clear hF
 obtain⟨w0,hw0⟩:∃ w0,w0=(w.alloc (.cells #[.int .i64 T,.int .i64 R,.bool O] 49)).alloc (.cells #[.int .i64 0,.int .i64 0,.bool false] 49):=⟨_,rfl⟩
 have HQ:=Lib.hid (show Blk w0 w.heap.size #[.int .i64 T,.int .i64 R,.bool O] 49 by rw[hw0];exact (Blk.new _ _ _).nb (Nb.rfl.al _))
 have HZ:=Lib.hid (show Blk w0 (w.heap.size+1) #[.int .i64 0,.int .i64 0,.bool false] 49 by
  rw[hw0]
  have:=Blk.new (w.alloc (.cells #[.int .i64 T,.int .i64 R,.bool O] 49)) #[.int .i64 0,.int .i64 0,.bool false] 49
  rw[World.size_alloc] at this
  exact this)
 have N0:=Lib.hid (show Nb w w0 by rw[hw0];exact (Nb.rfl.al _).al _)
 have HW:=Lib.hid hw0
 clear hw0
 cases O
 all_goals first | (exfalso;have:=hO rfl;omega) | skip
 all_goals clear hO
 all_goals go_enter Tryz.func159,Tryz.ntmps159
 all_goals go_wp2_with fail
 all_goals rw[<- HW.out]
 all_goals obtain⟨l0,c0,c1,c2,_,_,_⟩:=blk3 HQ.out
 all_goals obtain⟨l1,x0,x1,x2,y0,y1,y2⟩:=blk3 HZ.out
 all_goals have NB:Hid (Nb w0 w0.drew):=Lib.hid (Nb.drewN w0 1)
 all_goals go_region_with (first
  | (go_at_call 185
     refine (HD.out _).mono ?_
     rintro e w1 ⟨rfl,n1⟩
     have NB:=Lib.hid (NB.out.tr n1)
     obtain⟨l0,c0,c1,c2,_,_,_⟩:=blk3 (HQ.out.nb NB.out)
     obtain⟨l1,x0,x1,x2,y0,y1,y2⟩:=blk3 (HZ.out.nb NB.out)
     clear n1)
  | (go_at_call 205
     refine (HF.out _).mono ?_
     rintro e w2 ⟨rfl,n2⟩
     have NB:=Lib.hid (NB.out.tr n2)
     obtain⟨l1,x0,x1,x2,y0,y1,y2⟩:=blk3 (HZ.out.nb NB.out)
     clear n2))
 all_goals
  obtain⟨e0,e1,e2⟩:=p3_cells (.int .i64 T') (.int .i64 R') (.bool O') (HZ.out.nb NB.out)
  have nf:=p3_nb (N0.out.tr NB.out) (b:=w.heap.size+1) (by omega) (.int .i64 T') (.int .i64 R') (.bool O')
  go_wp2
  change bodyPost _ _ _ _ _ (p3 w2 (w.heap.size+1) (.int .i64 T') (.int .i64 R') (.bool O'))
  generalize p3 w2 (w.heap.size+1) (.int .i64 T') (.int .i64 R') (.bool O')=WW at e0 e1 e2 nf ⊢
  exact bodyPost_ret (v := .agg #[.int .i64 T',.int .i64 R',.bool O']) (by simp[results,Tryz.results159,go_sem,e0,e1,e2]) rfl ⟨rfl,nf⟩
theorem index_do5 (w:World):(Instr.index 200 doV (.int .i64 5)).run Tryz.prog w = .ok (Value.func (Fn.func 206) #[] #[]) w:=by kernel_rfl
theorem cf_unheard:∀ args w,(callFunc 206 args).run Tryz.prog w = .ok (.enter 206 args) w:=hcf _ _ Tryz.func206 (by rfl) (by decide +kernel)
theorem fbehind5 (T R:Int) (O:Bool) (T' R':Int) (O':Bool) (w:World) (hO:O=true->(5:Int)=6)
    (hF:∀ w',Calls Tryz.prog 206 #[.agg #[.int .i64 T,.int .i64 R,.bool O]] w' fun e w''=>e = .returned (.agg #[.int .i64 T',.int .i64 R',.bool O'])/\Nb w' w'') :
    Calls Tryz.prog 159 #[.agg #[.int .i64 T,.int .i64 R,.bool O],.int .i64 5] w fun e w'=>e = .returned (.agg #[.int .i64 T',.int .i64 R',.bool O'])/\Nb w w':=by
 have HF:=Lib.hid hF
 have HD:=Lib.hid doings_any
 have hix:=index_do5
 have hcf:=cf_unheard
 clear hF
 obtain⟨w0,hw0⟩:∃ w0,w0=(w.alloc (.cells #[.int .i64 T,.int .i64 R,.bool O] 49)).alloc (.cells #[.int .i64 0,.int .i64 0,.bool false] 49):=⟨_,rfl⟩
 have HQ:=Lib.hid (show Blk w0 w.heap.size #[.int .i64 T,.int .i64 R,.bool O] 49 by rw[hw0];exact (Blk.new _ _ _).nb (Nb.rfl.al _))
 have HZ:=Lib.hid (show Blk w0 (w.heap.size+1) #[.int .i64 0,.int .i64 0,.bool false] 49 by
  rw[hw0]
  have:=Blk.new (w.alloc (.cells #[.int .i64 T,.int .i64 R,.bool O] 49)) #[.int .i64 0,.int .i64 0,.bool false] 49
  rw[World.size_alloc] at this
  exact this)
 have N0:=Lib.hid (show Nb w w0 by rw[hw0];exact (Nb.rfl.al _).al _)
 have HW:=Lib.hid hw0
 clear hw0
 cases O
 all_goals first | (exfalso;have:=hO rfl;omega) | skip
 all_goals clear hO
 all_goals go_enter Tryz.func159,Tryz.ntmps159
 all_goals go_wp2_with fail
 all_goals rw[<- HW.out]
 all_goals obtain⟨l0,c0,c1,c2,_,_,_⟩:=blk3 HQ.out
 all_goals obtain⟨l1,x0,x1,x2,y0,y1,y2⟩:=blk3 HZ.out
 all_goals have NB:Hid (Nb w0 w0.drew):=Lib.hid (Nb.drewN w0 1)
 all_goals go_region_with (first
  | (go_at_call 185
     refine (HD.out _).mono ?_
     rintro e w1 ⟨rfl,n1⟩
     have NB:=Lib.hid (NB.out.tr n1)
     obtain⟨l0,c0,c1,c2,_,_,_⟩:=blk3 (HQ.out.nb NB.out)
     obtain⟨l1,x0,x1,x2,y0,y1,y2⟩:=blk3 (HZ.out.nb NB.out)
     clear n1)
  | (go_at_call 206
     refine (HF.out _).mono ?_
     rintro e w2 ⟨rfl,n2⟩
     have NB:=Lib.hid (NB.out.tr n2)
     obtain⟨l1,x0,x1,x2,y0,y1,y2⟩:=blk3 (HZ.out.nb NB.out)
     clear n2))
 all_goals
  obtain⟨e0,e1,e2⟩:=p3_cells (.int .i64 T') (.int .i64 R') (.bool O') (HZ.out.nb NB.out)
  have nf:=p3_nb (N0.out.tr NB.out) (b:=w.heap.size+1) (by omega) (.int .i64 T') (.int .i64 R') (.bool O')
  go_wp2
  change bodyPost _ _ _ _ _ (p3 w2 (w.heap.size+1) (.int .i64 T') (.int .i64 R') (.bool O'))
  generalize p3 w2 (w.heap.size+1) (.int .i64 T') (.int .i64 R') (.bool O')=WW at e0 e1 e2 nf ⊢
  exact bodyPost_ret (v := .agg #[.int .i64 T',.int .i64 R',.bool O']) (by simp[results,Tryz.results159,go_sem,e0,e1,e2]) rfl ⟨rfl,nf⟩
theorem index_do6 (w:World):(Instr.index 200 doV (.int .i64 6)).run Tryz.prog w = .ok (Value.func (Fn.func 207) #[] #[]) w:=by kernel_rfl
theorem cf_restart:∀ args w,(callFunc 207 args).run Tryz.prog w = .ok (.enter 207 args) w:=hcf _ _ Tryz.func207 (by rfl) (by decide +kernel)
theorem fbehind6 (T R:Int) (O:Bool) (T' R':Int) (O':Bool) (w:World) (hO:O=true->(6:Int)=6)
    (hF:∀ w',Calls Tryz.prog 207 #[.agg #[.int .i64 T,.int .i64 R,.bool O]] w' fun e w''=>e = .returned (.agg #[.int .i64 T',.int .i64 R',.bool O'])/\Nb w' w'') :
    Calls Tryz.prog 159 #[.agg #[.int .i64 T,.int .i64 R,.bool O],.int .i64 6] w fun e w'=>e = .returned (.agg #[.int .i64 T',.int .i64 R',.bool O'])/\Nb w w':=by
 have HF:=Lib.hid hF
 have HD:=Lib.hid doings_any
 have hix:=index_do6
 have hcf:=cf_restart
 clear hF
 obtain⟨w0,hw0⟩:∃ w0,w0=(w.alloc (.cells #[.int .i64 T,.int .i64 R,.bool O] 49)).alloc (.cells #[.int .i64 0,.int .i64 0,.bool false] 49):=⟨_,rfl⟩
 have HQ:=Lib.hid (show Blk w0 w.heap.size #[.int .i64 T,.int .i64 R,.bool O] 49 by rw[hw0];exact (Blk.new _ _ _).nb (Nb.rfl.al _))
 have HZ:=Lib.hid (show Blk w0 (w.heap.size+1) #[.int .i64 0,.int .i64 0,.bool false] 49 by
  rw[hw0]
  have:=Blk.new (w.alloc (.cells #[.int .i64 T,.int .i64 R,.bool O] 49)) #[.int .i64 0,.int .i64 0,.bool false] 49
  rw[World.size_alloc] at this
  exact this)
 have N0:=Lib.hid (show Nb w w0 by rw[hw0];exact (Nb.rfl.al _).al _)
 have HW:=Lib.hid hw0
 clear hw0
 cases O
 all_goals first | (exfalso;have:=hO rfl;omega) | skip
 all_goals clear hO
 all_goals go_enter Tryz.func159,Tryz.ntmps159
 all_goals go_wp2_with fail
 all_goals rw[<- HW.out]
 all_goals obtain⟨l0,c0,c1,c2,_,_,_⟩:=blk3 HQ.out
 all_goals obtain⟨l1,x0,x1,x2,y0,y1,y2⟩:=blk3 HZ.out
 all_goals have NB:Hid (Nb w0 w0.drew):=Lib.hid (Nb.drewN w0 1)
 all_goals go_region_with (first
  | (go_at_call 185
     refine (HD.out _).mono ?_
     rintro e w1 ⟨rfl,n1⟩
     have NB:=Lib.hid (NB.out.tr n1)
     obtain⟨l0,c0,c1,c2,_,_,_⟩:=blk3 (HQ.out.nb NB.out)
     obtain⟨l1,x0,x1,x2,y0,y1,y2⟩:=blk3 (HZ.out.nb NB.out)
     clear n1)
  | (go_at_call 207
     refine (HF.out _).mono ?_
     rintro e w2 ⟨rfl,n2⟩
     have NB:=Lib.hid (NB.out.tr n2)
     obtain⟨l1,x0,x1,x2,y0,y1,y2⟩:=blk3 (HZ.out.nb NB.out)
     clear n2))
 all_goals
  obtain⟨e0,e1,e2⟩:=p3_cells (.int .i64 T') (.int .i64 R') (.bool O') (HZ.out.nb NB.out)
  have nf:=p3_nb (N0.out.tr NB.out) (b:=w.heap.size+1) (by omega) (.int .i64 T') (.int .i64 R') (.bool O')
  go_wp2
  change bodyPost _ _ _ _ _ (p3 w2 (w.heap.size+1) (.int .i64 T') (.int .i64 R') (.bool O'))
  generalize p3 w2 (w.heap.size+1) (.int .i64 T') (.int .i64 R') (.bool O')=WW at e0 e1 e2 nf ⊢
  exact bodyPost_ret (v := .agg #[.int .i64 T',.int .i64 R',.bool O']) (by simp[results,Tryz.results159,go_sem,e0,e1,e2]) rfl ⟨rfl,nf⟩
theorem fbehind0 (T R:Int) (e:Int) (w:World) (he:e≠6):Calls Tryz.prog 159 #[.agg #[.int .i64 T,.int .i64 R,.bool true],.int .i64 e] w fun en w'=>en = .returned (.agg #[.int .i64 T,.int .i64 R,.bool true])/\Nb w w':=by
 have d6:(e==6)=false:=by rw[beq_eq_false_iff_ne];exact he
 have d6':(e != 6)=true:=by rw[bne_iff_ne];exact he
 clear he
 go_enter Tryz.func159,Tryz.ntmps159
 go_wp2
 exact bodyPost_ret (v := .agg #[.int .i64 T,.int .i64 R,.bool true]) (by simp[results,Tryz.results159,go_sem]) rfl ⟨rfl,(Nb.rfl.al _).al _⟩
theorem fbehind_any (s:Fa) (e:Int) (w:World) (h:okFa s=true) (he:evOk e=true):Calls Tryz.prog 159 #[.agg s.cs,.int .i64 e] w fun en w'=>en = .returned (.agg (doFa s e).cs)/\Nb w w':=by
 obtain⟨h1,h2,h3,h4,h5⟩:=(okFa_iff s).1 h
 obtain⟨g1,g2⟩:=(evOk_iff e).1 he
 obtain⟨T,R,O⟩:=s
 simp only at h1 h2 h3 h4 h5
 by_cases h6:e=6
 ·subst h6
  have hF:=fun w'=>frestart_any T R O w'
  cases O
  ·rw[show doFa ⟨T,R,false⟩ 6=⟨T,R,false⟩ by simp[doFa]]
   exact fbehind6 T R false T R false w (fun _=>rfl) hF
  ·rw[show doFa ⟨T,R,true⟩ 6=⟨0,0,false⟩ by simp[doFa,Fa.zero]]
   exact fbehind6 T R true 0 0 false w (fun _=>rfl) hF
 cases O with
 | true =>
   rw[show doFa ⟨T,R,true⟩ e=⟨T,R,true⟩ by simp[doFa,h6]]
   exact fbehind0 T R e w h6
 | false =>
   have hT:T<=255:=by
    have:¬255 < T:=by simpa using h5.symm
    omega
   have hO:(false:Bool)=true->(e:Int)=6:=fun h=>by cases h
   rcases (by omega:e=1\/e=2\/e=3\/e=4\/e=5) with rfl | rfl | rfl | rfl | rfl
   ·rw[show doFa ⟨T,R,false⟩ 1=⟨max (T - 1) 0,R,false⟩ by simp[doFa,Int.max_comm]]
    exact fbehind1 T R false _ _ _ w hO (fun w'=>fsent_any T R false w' h1 h2)
   ·rw[show doFa ⟨T,R,false⟩ 2=⟨T,if 127 < R then 120 else max (R - 1) 0,false⟩ by simp[doFa,Int.max_comm]]
    exact fbehind2 T R false _ _ _ w hO (fun w'=>fgot_any T R false w' h3 h4)
   ·rw[show doFa ⟨T,R,false⟩ 3=⟨T+8,R,decide (255 < T+8)⟩ by simp[doFa]]
    exact fbehind3 T R false _ _ _ w hO (fun w'=>fsendError_any T R false w' h1 h2)
   ·rw[show doFa ⟨T,R,false⟩ 4=⟨T,min (R+1) 255,false⟩ by simp[doFa,Int.min_comm]]
    exact fbehind4 T R false _ _ _ w hO (fun w'=>fgetError_any T R false w' h3 h4)
   ·exact fbehind5 T R false _ _ _ w hO (fun w'=>funheard_any T R w' h1 hT)
end Go.Proofs.YtipefblpppmabaaGreatDoor
namespace Go.Proofs.YtipefblpppmabaaGreatDoor
set_option linter.unusedVariables false
set_option linter.unusedSimpArgs false
open Go.RowKit
theorem fmode11_any (s:Fa) (w:World):Calls Tryz.prog 144 #[.agg s.cs] w fun e w'=>e = .returned (.tuple #[.int .i64 (if okFa s then isFa s else 0:Nat),.int .i64 (errFa s:Nat)])/\Nb w w':=by
 have HC:=Lib.hid (fun w'=>fchk11_any s w')
 have HI:=Lib.hid (fun w'=>fis11_any s w')
 unfold errFa at HC ⊢
 have Q:=Lib.hid (Blk.new w s.cs 49)
 generalize isFa s=m at *
 generalize okFa s=ok at *
 obtain⟨T,R,O⟩:=s
 simp only[Fa.cs] at HC HI Q ⊢
 cases ok
 all_goals simp only[Bool.false_eq_true,if_false,if_true] at HC ⊢
 ·go_enter Tryz.func144,Tryz.ntmps144
  go_wp2_with fail
  refine (HC.out _).mono ?_
  rintro e w1 ⟨rfl,n1⟩
  go_wp2
  go_ret2
  exact⟨rfl,(Nb.rfl.al _).tr n1⟩
 ·go_enter Tryz.func144,Tryz.ntmps144
  go_wp2_with fail
  refine (HC.out _).mono ?_
  rintro e w1 ⟨rfl,n1⟩
  have q:=Q.out.nb n1
  have c0:w1.cell? ⟨w.heap.size,0,none⟩=some (.int .i64 T):=q.cell 0
  have c1:w1.cell? ⟨w.heap.size,1,none⟩=some (.int .i64 R):=q.cell 1
  have c2:w1.cell? ⟨w.heap.size,2,none⟩=some (.bool O):=q.cell 2
  have M1:=Lib.hid ((Nb.rfl.al _).tr n1:Nb w w1)
  clear q n1
  go_wp2_with fail
  refine (HI.out _).mono ?_
  rintro e w2 ⟨rfl,n2⟩
  go_wp2
  go_ret2
  exact⟨rfl,M1.out.tr n2⟩
theorem fnext11_any (s:Fa) (e:Int) (w:World):Calls Tryz.prog 145 #[.agg s.cs,.int .i64 e] w fun en w'=>en = .returned (.tuple #[.agg (nxFa s e).cs,.int .i64 (nxE s e:Nat)])/\Nb w w':=by
 have HC:=Lib.hid (fun w'=>fchk11_any s w')
 have HZ0:=Lib.hid (Blk.new (w.alloc (.cells s.cs 49)) #[.int .i64 0,.int .i64 0,.bool false] 49)
 have HQ0:=Lib.hid (Blk.new w s.cs 49)
 cases hok:okFa s with
 | false =>
   rw[show errFa s=2 by simp[errFa,hok]] at HC
   rw[show nxFa s e=Fa.zero by simp[nxFa,hok],show nxE s e=2 by simp[nxE,hok]]
   clear hok
   obtain⟨T,R,O⟩:=s
   simp only[Fa.cs,Fa.zero] at HC HZ0 HQ0 ⊢
   go_enter Tryz.func145,Tryz.ntmps145
   go_wp2_with fail
   refine (HC.out _).mono ?_
   rintro en w1 ⟨rfl,n1⟩
   have hz:=HZ0.out.nb n1
   rw[World.size_alloc] at hz
   have hq:=(HQ0.out.nb (Nb.rfl.al _)).nb n1
   have y0:=hz.frozen 0
   have y1:=hz.frozen 1
   have y2:=hz.frozen 2
   have x0:w1.cell? ⟨w.heap.size+1,0,none⟩=some (.int .i64 0):=hz.cell 0
   have x1:w1.cell? ⟨w.heap.size+1,1,none⟩=some (.int .i64 0):=hz.cell 1
   have x2:w1.cell? ⟨w.heap.size+1,2,none⟩=some (.bool false):=hz.cell 2
   have c0:w1.cell? ⟨w.heap.size,0,none⟩=some (.int .i64 T):=hq.cell 0
   have c1:w1.cell? ⟨w.heap.size,1,none⟩=some (.int .i64 R):=hq.cell 1
   have c2:w1.cell? ⟨w.heap.size,2,none⟩=some (.bool O):=hq.cell 2
   have M1:=Lib.hid (((Nb.rfl.al _).al _).tr n1:Nb w w1)
   have HZ1:=Lib.hid hz
   clear hz hq n1 HZ0 HQ0
   have hb3:=HZ1.out
   have nb3:=M1.out
   obtain⟨e0,e1,e2⟩:=p3_cells (.int .i64 0) (.int .i64 0) (.bool false) hb3
   have nf:=p3_nb nb3 (b:=w.heap.size+1) (by omega) (.int .i64 0) (.int .i64 0) (.bool false)
   go_wp2
   change bodyPost _ _ _ _ _ (p3 w1 (w.heap.size+1) (.int .i64 0) (.int .i64 0) (.bool false))
   generalize p3 w1 (w.heap.size+1) (.int .i64 0) (.int .i64 0) (.bool false)=WW at e0 e1 e2 nf ⊢
   exact bodyPost_ret (v := .tuple #[.agg #[.int .i64 0,.int .i64 0,.bool false],.int .i64 2]) (by simp[results,Tryz.results145,go_sem,e0,e1,e2]) rfl ⟨rfl,nf⟩
 | true =>
   rw[show errFa s=0 by simp[errFa,hok]] at HC
   cases hev:evOk e with
   | false =>
     rw[show nxFa s e=Fa.zero by simp[nxFa,hev],show nxE s e=2 by simp[nxE,hev]]
     have hbad:e < 1\/6 < e:=by
      have h0:¬(1<=e/\e<=6):=fun h1=>by rw[(evOk_iff e).2 h1] at hev;cases hev
      omega
     clear hok hev
     obtain⟨T,R,O⟩:=s
     simp only[Fa.cs,Fa.zero] at HC HZ0 HQ0 ⊢
     go_enter Tryz.func145,Tryz.ntmps145
     go_wp2_with fail
     refine (HC.out _).mono ?_
     rintro en w1 ⟨rfl,n1⟩
     have hz:=HZ0.out.nb n1
     rw[World.size_alloc] at hz
     have hq:=(HQ0.out.nb (Nb.rfl.al _)).nb n1
     have y0:=hz.frozen 0
     have y1:=hz.frozen 1
     have y2:=hz.frozen 2
     have x0:w1.cell? ⟨w.heap.size+1,0,none⟩=some (.int .i64 0):=hz.cell 0
     have x1:w1.cell? ⟨w.heap.size+1,1,none⟩=some (.int .i64 0):=hz.cell 1
     have x2:w1.cell? ⟨w.heap.size+1,2,none⟩=some (.bool false):=hz.cell 2
     have c0:w1.cell? ⟨w.heap.size,0,none⟩=some (.int .i64 T):=hq.cell 0
     have c1:w1.cell? ⟨w.heap.size,1,none⟩=some (.int .i64 R):=hq.cell 1
     have c2:w1.cell? ⟨w.heap.size,2,none⟩=some (.bool O):=hq.cell 2
     have M1:=Lib.hid (((Nb.rfl.al _).al _).tr n1:Nb w w1)
     have HZ1:=Lib.hid hz
     clear hz hq n1 HZ0 HQ0
     by_cases h1:e < 1
     ·have d1:decide (e < 1)=true:=decide_eq_true h1
      clear h1 hbad
      have hb3:=HZ1.out
      have nb3:=M1.out
      obtain⟨e0,e1,e2⟩:=p3_cells (.int .i64 0) (.int .i64 0) (.bool false) hb3
      have nf:=p3_nb nb3 (b:=w.heap.size+1) (by omega) (.int .i64 0) (.int .i64 0) (.bool false)
      go_wp2
      change bodyPost _ _ _ _ _ (p3 w1 (w.heap.size+1) (.int .i64 0) (.int .i64 0) (.bool false))
      generalize p3 w1 (w.heap.size+1) (.int .i64 0) (.int .i64 0) (.bool false)=WW at e0 e1 e2 nf ⊢
      exact bodyPost_ret (v := .tuple #[.agg #[.int .i64 0,.int .i64 0,.bool false],.int .i64 2]) (by simp[results,Tryz.results145,go_sem,e0,e1,e2]) rfl ⟨rfl,nf⟩
     ·have d1:decide (e < 1)=false:=decide_eq_false h1
      have d2:decide (6 < e)=true:=decide_eq_true (by omega)
      clear h1 hbad
      have hb3:=HZ1.out
      have nb3:=M1.out
      obtain⟨e0,e1,e2⟩:=p3_cells (.int .i64 0) (.int .i64 0) (.bool false) hb3
      have nf:=p3_nb nb3 (b:=w.heap.size+1) (by omega) (.int .i64 0) (.int .i64 0) (.bool false)
      go_wp2
      change bodyPost _ _ _ _ _ (p3 w1 (w.heap.size+1) (.int .i64 0) (.int .i64 0) (.bool false))
      generalize p3 w1 (w.heap.size+1) (.int .i64 0) (.int .i64 0) (.bool false)=WW at e0 e1 e2 nf ⊢
      exact bodyPost_ret (v := .tuple #[.agg #[.int .i64 0,.int .i64 0,.bool false],.int .i64 2]) (by simp[results,Tryz.results145,go_sem,e0,e1,e2]) rfl ⟨rfl,nf⟩
   | true =>
     rw[show nxFa s e=doFa s e by simp[nxFa,hok,hev],show nxE s e=0 by simp[nxE,hok,hev]]
     have HDo:=Lib.hid (fun w'=>fbehind_any s e w' hok hev)
     obtain⟨v1,v2⟩:=(evOk_iff e).1 hev
     have d1:decide (e < 1)=false:=decide_eq_false (by omega)
     have d2:decide (6 < e)=false:=decide_eq_false (by omega)
     clear hok hev v1 v2
     generalize doFa s e=s' at *
     obtain⟨T,R,O⟩:=s
     obtain⟨T',R',O'⟩:=s'
     simp only[Fa.cs] at HC HZ0 HQ0 HDo ⊢
     go_enter Tryz.func145,Tryz.ntmps145
     go_wp2_with fail
     refine (HC.out _).mono ?_
     rintro en w1 ⟨rfl,n1⟩
     have hz:=HZ0.out.nb n1
     rw[World.size_alloc] at hz
     have hq:=(HQ0.out.nb (Nb.rfl.al _)).nb n1
     have y0:=hz.frozen 0
     have y1:=hz.frozen 1
     have y2:=hz.frozen 2
     have x0:w1.cell? ⟨w.heap.size+1,0,none⟩=some (.int .i64 0):=hz.cell 0
     have x1:w1.cell? ⟨w.heap.size+1,1,none⟩=some (.int .i64 0):=hz.cell 1
     have x2:w1.cell? ⟨w.heap.size+1,2,none⟩=some (.bool false):=hz.cell 2
     have c0:w1.cell? ⟨w.heap.size,0,none⟩=some (.int .i64 T):=hq.cell 0
     have c1:w1.cell? ⟨w.heap.size,1,none⟩=some (.int .i64 R):=hq.cell 1
     have c2:w1.cell? ⟨w.heap.size,2,none⟩=some (.bool O):=hq.cell 2
     have M1:=Lib.hid (((Nb.rfl.al _).al _).tr n1:Nb w w1)
     have HZ1:=Lib.hid hz
     clear hz hq n1 HZ0 HQ0
     go_wp2_with fail
     refine (HDo.out _).mono ?_
     rintro en w2 ⟨rfl,n2⟩
     have hz:=HZ1.out.nb n2
     clear y0 y1 y2 x0 x1 x2 c0 c1 c2
     have y0:=hz.frozen 0
     have y1:=hz.frozen 1
     have y2:=hz.frozen 2
     have x0:w2.cell? ⟨w.heap.size+1,0,none⟩=some (.int .i64 0):=hz.cell 0
     have x1:w2.cell? ⟨w.heap.size+1,1,none⟩=some (.int .i64 0):=hz.cell 1
     have x2:w2.cell? ⟨w.heap.size+1,2,none⟩=some (.bool false):=hz.cell 2
     have M2:=Lib.hid (M1.out.tr n2)
     have HZ2:=Lib.hid hz
     clear hz n2
     have hb3:=HZ2.out
     have nb3:=M2.out
     obtain⟨e0,e1,e2⟩:=p3_cells (.int .i64 T') (.int .i64 R') (.bool O') hb3
     have nf:=p3_nb nb3 (b:=w.heap.size+1) (by omega) (.int .i64 T') (.int .i64 R') (.bool O')
     go_wp2
     change bodyPost _ _ _ _ _ (p3 w2 (w.heap.size+1) (.int .i64 T') (.int .i64 R') (.bool O'))
     generalize p3 w2 (w.heap.size+1) (.int .i64 T') (.int .i64 R') (.bool O')=WW at e0 e1 e2 nf ⊢
     exact bodyPost_ret (v := .tuple #[.agg #[.int .i64 T',.int .i64 R',.bool O'],.int .i64 0]) (by simp[results,Tryz.results145,go_sem,e0,e1,e2]) rfl ⟨rfl,nf⟩
end Go.Proofs.YtipefblpppmabaaGreatDoor
