/- The program's heap of places in memory, and more that the law's proof uses. Conditions: as each states. -/
import Derived.Test.YtkjjfnmeogpdbaaGreatDoorGor
import Derived.Test.YtkjjfnmeogpdbaaGreatDoorGa
import Derived.BigRegion
import Derived.Deep.RegionHeld3
import Derived.Maps.Own
import Derived.Maps.Views
set_option maxHeartbeats 3200000
set_option maxRecDepth 100000
namespace Go.Proofs.YtkjjfnmeogpdbaaGreatDoor
set_option linter.unusedVariables false
set_option linter.unusedSimpArgs false
open Go.RowKit
variable {ops:Array Oper} {ks l rs:List Nat} {rest:List Oper} {B G R cap g i k n q:Nat} {a:Option Addr} {v:Value} {w w':World}
def z3X(w:World)(g:Nat)(l:List (Nat × Nat)):Prop:=∃cs,Blk w g cs 149/\l.length*2<=cs.size/\∀j,j < l.length->cs[j*2]? = some (.int .u64 ((l.getD j d0).1:Nat))/\cs[j*2+1]? = some (.int .i64 ((l.getD j d0).2:Nat))
theorem z3X.cell {w:World} {g:Nat} {l:List (Nat × Nat)} (h:z3X w g l) {j:Nat} (hj:j < l.length) :
    w.cell? ⟨g,j*2,none⟩=some (.int .u64 ((l.getD j d0).1:Nat))/\w.cell? ⟨g,j*2+1,none⟩=some (.int .i64 ((l.getD j d0).2:Nat))/\w.frozen? ⟨g,j*2,none⟩=false/\w.frozen? ⟨g,j*2+1,none⟩=false:=by
 obtain⟨cs,hb,_,hc⟩:=h
 exact⟨(hb.cell _).trans (hc j hj).1,(hb.cell _).trans (hc j hj).2,hb.frozen _,hb.frozen _⟩
theorem z3X.keep{F:Nat->Prop}{w w':World}{g:Nat}{l:List (Nat × Nat)}(h:z3X w g l)(hk:Kp F w w')(hn:¬F g):z3X w' g l:=by
 obtain⟨cs,hb,h1,h2⟩:=h
 exact⟨cs,hb.keep hk hn,h1,h2⟩
theorem z3X.lt{w:World}{g:Nat}{l:List (Nat × Nat)}(h:z3X w g l):g < w.heap.size:=by
 obtain⟨cs,hb,_⟩:=h
 exact hb.lt
theorem z3X.put {l:List (Nat × Nat)} (h:z3X w g l) (p:Nat × Nat) :
    z3X ((w.setCell ⟨g,i*2,none⟩ (.int .u64 (p.1:Nat))).setCell ⟨g,i*2+1,none⟩ (.int .i64 (p.2:Nat))) g (l.set i p):=by
 obtain⟨cs,hb,h1,h2⟩:=h
 refine⟨_,(hb.set _ _).set _ _,by simpa using h1,fun j hj => ?_⟩
 rw[List.length_set]at hj
 obtain⟨a1,a2⟩:=h2 j hj
 have b1:j*2 < cs.size:=(Array.getElem?_eq_some_iff.1 a1).1
 have b2:j*2+1 < cs.size:=(Array.getElem?_eq_some_iff.1 a2).1
 by_cases hij:i=j
 ·subst hij
  have e:(l.set i p).getD i d0=p:=by simp[List.getD,hj]
  rw[e]
  constructor
  ·rw[Array.getElem?_setIfInBounds_ne (by omega),Array.getElem?_setIfInBounds_self_of_lt b1]
  ·rw[Array.getElem?_setIfInBounds_self_of_lt (by simpa using b2)]
 ·have e:(l.set i p).getD j d0=l.getD j d0:=by simp[List.getD,List.getElem?_set_ne hij]
  rw[e]
  constructor
  ·rw[Array.getElem?_setIfInBounds_ne (by omega),Array.getElem?_setIfInBounds_ne (by omega)]
   exact a1
  ·rw[Array.getElem?_setIfInBounds_ne (by omega),Array.getElem?_setIfInBounds_ne (by omega)]
   exact a2
theorem z3X.less{l:List (Nat × Nat)}(h:z3X w g l)(n:Nat):z3X w g (l.take n):=by
 obtain⟨cs,hb,h1,h2⟩:=h
 refine⟨cs,hb,by rw[List.length_take];omega,fun j hj => ?_⟩
 rw[List.length_take]at hj
 have e:(l.take n).getD j d0=l.getD j d0:=by simp[List.getD,show j < n by omega]
 rw[e]
 exact h2 j (by omega)
def ahF:Value := .func (.func 79) #[] #[]
structure z2A(w:World)(R G:Nat)(a:Option Addr)(cap:Nat)(l:List (Nat × Nat)):Prop where
 blk:Blk w R #[.slice a l.length cap,ahF] 152
 ne:G≠R
 hcap:l.length<=cap
 hmax:cap<=9223372036854775807
 rows:0 < l.length->a=some ⟨G,0,none⟩/\z3X w G l
theorem z2A.keep{F:Nat->Prop}{w w':World}{R G cap:Nat}{a:Option Addr}{l:List (Nat × Nat)}(h:z2A w R G a cap l)(hk:Kp F w w')(h1:¬F R)(h2:¬F G):z2A w' R G a cap l :=
 ⟨h.blk.keep hk h1,h.ne,h.hcap,h.hmax,fun h0=>⟨(h.rows h0).1,(h.rows h0).2.keep hk h2⟩⟩
theorem z2A.nb{l:List (Nat × Nat)}(h:z2A w R G a cap l)(hk:Nb w w'):z2A w' R G a cap l:=h.keep (F:=fun _=>False) (Kp.ofNb hk) (by simp) (by simp)
theorem z7f (R G:Nat) (a:Option Addr) (cap:Nat) (l:List (Nat × Nat)) (w:World) (h:z2A w R G a cap l) :
    Calls Tryz.prog 56 #[.pointer (some ⟨R,0,none⟩)] w fun e w'=>e = .returned (.int .i64 (l.length:Nat))/\w=w':=by
 have c0:=h.blk.cell 0
 have c1:=h.blk.cell 1
 simp only[List.getElem?_toArray,List.getElem?_cons_zero,List.getElem?_cons_succ]at c0 c1
 clear h
 go_enter Tryz.func56,Tryz.ntmps56
 go_wp2
 go_ret
 exact⟨rfl,rfl⟩
theorem zdE (p q:Nat × Nat) (w:World) :
    Calls Tryz.prog 79 #[.agg #[.int .u64 (p.1:Nat),.int .i64 (p.2:Nat)],.agg #[.int .u64 (q.1:Nat),.int .i64 (q.2:Nat)]] w fun e w'=>e = .returned (.bool (ahB p q))/\Nb w w':=by
 obtain⟨a,b⟩:=p
 obtain⟨c,d⟩:=q
 unfold ahB
 simp only
 by_cases h:a=c
 ·subst h
  rw[if_pos rfl]
  have d1:((a:Int) != (a:Int))=false:=by simp
  go_enter Tryz.func79,Tryz.ntmps79
  go_wp2
  go_ret
  exact⟨by simp,(Nb.rfl.al _).al _⟩
 ·rw[if_neg h]
  have d1:((a:Int) != (c:Int))=true:=by simp;omega
  have d2:((a:Int)==(c:Int))=false:=by simp;omega
  go_enter Tryz.func79,Tryz.ntmps79
  go_wp2
  go_ret
  exact⟨by simp,(Nb.rfl.al _).al _⟩
theorem zkp {l:List (Nat × Nat)} (h:z2A w R G (some ⟨G,0,none⟩) cap l) {j:Nat} (hi:i < l.length) (hj:j < l.length) :
    w.cell? ⟨R,0,none⟩=some (.slice (some ⟨G,0,none⟩) l.length cap)/\w.cell? ⟨R,1,none⟩=some ahF/\w.cell? ⟨G,i*2,none⟩=some (.int .u64 ((l.getD i d0).1:Nat))/\w.cell? ⟨G,i*2+1,none⟩=some (.int .i64 ((l.getD i d0).2:Nat)) /\
     w.cell? ⟨G,j*2,none⟩=some (.int .u64 ((l.getD j d0).1:Nat))/\w.cell? ⟨G,j*2+1,none⟩=some (.int .i64 ((l.getD j d0).2:Nat)):=by
 have hr:=(h.rows (by omega)).2
 exact⟨h.blk.cell 0,h.blk.cell 1,(hr.cell hi).1,(hr.cell hi).2.1,(hr.cell hj).1,(hr.cell hj).2.1⟩
theorem z2A.swap {l:List (Nat × Nat)} (h:z2A w R G a cap l) {j:Nat} (hi:i < l.length) (hj:j < l.length) :
    z2A ((((w.setCell ⟨G,i*2,none⟩ (.int .u64 ((l.getD j d0).1:Nat))).setCell ⟨G,i*2+1,none⟩ (.int .i64 ((l.getD j d0).2:Nat))).setCell ⟨G,j*2,none⟩ (.int .u64 ((l.getD i d0).1:Nat))).setCell ⟨G,j*2+1,none⟩ (.int .i64 ((l.getD i d0).2:Nat))) R G a cap (swp l i j):=by
 have hn:R≠G:=fun e=>h.ne e.symm
 refine⟨?_,h.ne,by rw[z72];exact h.hcap,h.hmax,fun h0=>⟨(h.rows (by omega)).1,?_⟩⟩
 ·rw[z72]
  exact(((h.blk.other hn _).other hn _).other hn _).other hn _
 ·exact((h.rows (by omega)).2.put (l.getD j d0)).put (l.getD i d0)
theorem z2A.popped {l:List (Nat × Nat)} (h:z2A w R G a cap l) (hn:n<=l.length) :
    z2A (w.setCell ⟨R,0,none⟩ (.slice a n cap)) R G a cap (l.take n):=by
 have hl:(l.take n).length=n:=by rw[List.length_take];omega
 have hc:=h.hcap
 refine⟨?_,h.ne,by omega,h.hmax,fun h0=>⟨(h.rows (by omega)).1,?_⟩⟩
 ·rw[hl]
  exact h.blk.set 0 (.slice a n cap)
 ·exact((h.rows (by omega)).2.keep (Kp.set (F:=(·=R)) rfl) h.ne).less n
theorem zf1(w:World)(G a b c d:Nat)(u v x y:Value):Kp (·=G) w ((((w.setCell ⟨G,a,none⟩ u).setCell ⟨G,b,none⟩ v).setCell ⟨G,c,none⟩ x).setCell ⟨G,d,none⟩ y) :=
 (((Kp.set (F:=(·=G)) rfl).tr (Kp.set (F:=(·=G)) rfl) (fun _ h => .inl h)).tr (Kp.set (F:=(·=G)) rfl) (fun _ h => .inl h)).tr (Kp.set (F:=(·=G)) rfl) (fun _ h => .inl h)
theorem ze2 (R G:Nat) (a:Option Addr) (cap:Nat) (l:List (Nat × Nat)) (w:World) (h:z2A w R G a cap l) (i j:Nat) (hi:i < l.length) (hj:j < l.length) (hl:l.length<=1000) :
    Calls Tryz.prog 322 #[.pointer (some ⟨R,0,none⟩),.int .i64 (i:Nat),.int .i64 (j:Nat)] w fun e w'=>e = .returned (.bool (ahB (l.getD i d0) (l.getD j d0)))/\Nb w w':=by
 obtain⟨rfl,hr⟩:=h.rows (by omega)
 have c0:=h.blk.cell 0
 have c1:=h.blk.cell 1
 simp only[List.getElem?_toArray,List.getElem?_cons_zero,List.getElem?_cons_succ,ahF]at c0 c1
 obtain⟨u0,u1,_,_⟩:=hr.cell hi
 obtain⟨v0,v1,_,_⟩:=hr.cell hj
 have CF:=zH (fun w' (n:Nb w w')=>zkp (h.nb n) hi hj)
 clear h hr
 unfold ahF at CF
 generalize l.getD i d0=p at *
 generalize l.getD j d0=q at *
 have i1:(i:Int) < (l.length:Int):=by omega
 have j1:(j:Int) < (l.length:Int):=by omega
 have HA:=zH (fun w=>zdE p q w)
 clear hi hj
 generalize l.length=n at *
 go_enter Tryz.func322,Tryz.ntmps322
 go_wp2_with fail
 go_region_held3 (fun w'=>w'.cell? ⟨R,0,none⟩=some (.slice (some ⟨G,0,none⟩) n cap)/\w'.cell? ⟨R,1,none⟩=some (.func (.func 79) #[] #[])/\w'.cell? ⟨G,i*2,none⟩=some (.int .u64 (p.1:Nat))/\w'.cell? ⟨G,i*2+1,none⟩=some (.int .i64 (p.2:Nat))/\w'.cell? ⟨G,j*2,none⟩=some (.int .u64 (q.1:Nat))/\w'.cell? ⟨G,j*2+1,none⟩=some (.int .i64 (q.2:Nat))) (first | go_keep | exact CF.out _ (Nb.tr (Below.drew (Below.refl _ _):Nb w w.drew) n7)) ((go_at_call 79;refine(HA.out _).mono ?_;rintro e w7 ⟨rfl,n7⟩))
 have N7:=zH (Nb.tr (Below.drew (Below.refl _ _):Nb w w.drew) n7)
 clear n7
 go_wp2
 go_ret
 exact⟨rfl,N7.out⟩
theorem zfl (R G:Nat) (a:Option Addr) (cap:Nat) (l:List (Nat × Nat)) (w:World) (h:z2A w R G a cap l) (i j:Nat) (hi:i < l.length) (hj:j < l.length) (hl:l.length<=1000) (hne:i≠j) :
    Calls Tryz.prog 324 #[.pointer (some ⟨R,0,none⟩),.int .i64 (i:Nat),.int .i64 (j:Nat)] w fun e w'=>e = .returned (.tuple #[])/\z2A w' R G a cap (swp l i j)/\Kp (·=G) w w':=by
 obtain⟨rfl,hr⟩:=h.rows (by omega)
 have c0:=h.blk.cell 0
 have hne2:=h.ne
 simp only[List.getElem?_toArray,List.getElem?_cons_zero,List.getElem?_cons_succ,ahF]at c0
 obtain⟨u0,u1,fu0,fu1⟩:=hr.cell hi
 obtain⟨v0,v1,fv0,fv1⟩:=hr.cell hj
 have H:=zH (h.swap hi hj)
 clear h hr
 have i1:(i:Int) < (l.length:Int):=by omega
 have j1:(j:Int) < (l.length:Int):=by omega
 generalize l.getD i d0=p at *
 generalize l.getD j d0=q at *
 clear hi hj
 have k1:¬i*2=j*2:=by omega
 have k2:¬i*2=j*2+1:=by omega
 have k3:¬i*2+1=j*2:=by omega
 have k4:¬j*2=i*2:=by omega
 have k5:¬j*2+1=i*2:=by omega
 have k6:¬j*2=i*2+1:=by omega
 have k7:¬i=j:=hne
 have k8:¬j=i:=fun h=>hne h.symm
 clear hne
 generalize l.length=n at *
 go_enter Tryz.func324,Tryz.ntmps324
 go_wp2_with fail
 go_region
 go_end0
 exact⟨rfl,H.out.nb (Below.drew (Below.refl _ _)),(zf1 w G _ _ _ _ _ _ _ _).tr (Kp.ofNb (F:=fun _=>False) (Below.drew (Below.refl _ _))) (fun _ h=>h.elim)⟩
theorem zcL (R G:Nat) (a:Option Addr) (cap:Nat) (l:List (Nat × Nat)) (w:World) (h:z2A w R G a cap l) (i:Nat) (hi:i < l.length) (hl:l.length<=1000) :
    Calls Tryz.prog 324 #[.pointer (some ⟨R,0,none⟩),.int .i64 (i:Nat),.int .i64 (i:Nat)] w fun e w'=>e = .returned (.tuple #[])/\z2A w' R G a cap (swp l i i)/\Kp (·=G) w w':=by
 obtain⟨rfl,hr⟩:=h.rows (by omega)
 have c0:=h.blk.cell 0
 have hne2:=h.ne
 simp only[List.getElem?_toArray,List.getElem?_cons_zero,List.getElem?_cons_succ,ahF]at c0
 obtain⟨u0,u1,fu0,fu1⟩:=hr.cell hi
 have H:=zH (h.swap hi hi)
 clear h hr
 have i1:(i:Int) < (l.length:Int):=by omega
 generalize l.getD i d0=p at *
 clear hi
 generalize l.length=n at *
 go_enter Tryz.func324,Tryz.ntmps324
 go_wp2_with fail
 go_region
 go_end0
 exact⟨rfl,H.out.nb (Below.drew (Below.refl _ _)),(zf1 w G _ _ _ _ _ _ _ _).tr (Kp.ofNb (F:=fun _=>False) (Below.drew (Below.refl _ _))) (fun _ h=>h.elim)⟩
theorem z8g (R G:Nat) (a:Option Addr) (cap:Nat) (l:List (Nat × Nat)) (w:World) (h:z2A w R G a cap l) (i j:Nat) (hi:i < l.length) (hj:j < l.length) (hl:l.length<=1000) :
    Calls Tryz.prog 324 #[.pointer (some ⟨R,0,none⟩),.int .i64 (i:Nat),.int .i64 (j:Nat)] w fun e w'=>e = .returned (.tuple #[])/\z2A w' R G a cap (swp l i j)/\Kp (·=G) w w':=by
 by_cases hij:i=j
 ·subst hij
  exact zcL R G a cap l w h i hi hl
 ·exact zfl R G a cap l w h i j hi hj hl hij
theorem zh9 (R G:Nat) (a:Option Addr) (cap:Nat) (l:List (Nat × Nat)) (n:Nat) (w:World) (h:z2A w R G a cap l) (hn:l.length=n+1) (hl:l.length<=1000) :
    Calls Tryz.prog 323 #[.pointer (some ⟨R,0,none⟩)] w fun e w'=>e = .returned (.iface 149 (.agg #[.int .u64 ((l.getD n d0).1:Nat),.int .i64 ((l.getD n d0).2:Nat)]))/\z2A w' R G a cap (l.take n)/\Kp (·=R) w w':=by
 obtain⟨rfl,hr⟩:=h.rows (by omega)
 have hcap:=h.hcap
 have hmax:=h.hmax
 have c0:=h.blk.cell 0
 have f0:=h.blk.frozen 0
 have hR:=h.blk.lt
 have hne2:=h.ne
 simp only[List.getElem?_toArray,List.getElem?_cons_zero,List.getElem?_cons_succ,ahF]at c0
 obtain⟨u0,u1,fu0,fu1⟩:=hr.cell (j:=n) (by omega)
 have H:=zH (h.popped (n:=n) (by omega))
 clear h hr
 rw[hn]at c0 hcap hl
 have HN:=zH hn
 clear hn
 generalize l.getD n d0=p at *
 go_enter Tryz.func323,Tryz.ntmps323
 go_wp2
 go_ret
 exact⟨rfl,H.out.nb (Nb.rfl.al _),(Kp.set (F:=(·=R)) rfl).tr Kp.alloc (fun _ h=>h)⟩
def z5U(w w':World)(R G:Nat)(a:Option Addr)(cap:Nat)(l0:List (Nat × Nat))(n i0:Nat):Prop :=
 ∃l',z2A w' R G a cap l'/\l'.length=l0.length/\l'.Perm l0/\(∀k,n<=k->l'.getD k d0=l0.getD k d0)/\(l'.take n).Perm (l0.take n)/\HpF l' n i0/\Kp (·=G) w w'
theorem z5U.of{i0:Nat}{l0 l:List (Nat × Nat)}(h:DnI l0 l n i0 i)(hp:z2A w' R G a cap l)(hk:Kp (·=G) w w')(hn:n<=l0.length)(hh:HpF l n i0):z5U w w' R G a cap l0 n i0 :=
 ⟨l,hp,h.len,h.perm,h.rest,h.head hn,hh,hk⟩
theorem zh4 (R : Nat) (w : World) : (method 440 120 (.pointer (some ⟨R, 0, none⟩)) "Less").run Tryz.prog w = .ok (322, .pointer (some ⟨R, 0, none⟩)) w := by kernel_rfl
theorem zbv (R : Nat) (w : World) : (method 440 120 (.pointer (some ⟨R, 0, none⟩)) "Swap").run Tryz.prog w = .ok (324, .pointer (some ⟨R, 0, none⟩)) w := by kernel_rfl
theorem zdu (R : Nat) (w : World) : (method 440 120 (.pointer (some ⟨R, 0, none⟩)) "Len").run Tryz.prog w = .ok (56, .pointer (some ⟨R, 0, none⟩)) w := by kernel_rfl
theorem zjb (R : Nat) (w : World) : (method 440 120 (.pointer (some ⟨R, 0, none⟩)) "Pop").run Tryz.prog w = .ok (323, .pointer (some ⟨R, 0, none⟩)) w := by kernel_rfl
theorem ziF:∀args w,(callFunc 322 args).run Tryz.prog w = .ok (.enter 322 args) w:=hcf _ _ Tryz.func322 (by kernel_rfl) (by kernel_rfl)
theorem zev:∀args w,(callFunc 324 args).run Tryz.prog w = .ok (.enter 324 args) w:=hcf _ _ Tryz.func324 (by kernel_rfl) (by kernel_rfl)
theorem zhX:∀args w,(callFunc 56 args).run Tryz.prog w = .ok (.enter 56 args) w:=hcf _ _ Tryz.func56 (by kernel_rfl) (by kernel_rfl)
theorem zk9:∀args w,(callFunc 323 args).run Tryz.prog w = .ok (.enter 323 args) w:=hcf _ _ Tryz.func323 (by kernel_rfl) (by kernel_rfl)
theorem zbl (R G:Nat) (a:Option Addr) (cap:Nat) (l0:List (Nat × Nat)) (n i0:Nat) (w:World) (h:z2A w R G a cap l0) (hn:n<=l0.length) (hl:l0.length<=1000) (hi0:i0<=1000) (hh:HpF l0 n (i0+1)) :
    Calls Tryz.prog 129 #[.iface 120 (.pointer (some ⟨R,0,none⟩)),.int .i64 (i0:Nat),.int .i64 (n:Nat)] w fun e w'=>(∃b,e = .returned (.bool b))/\z5U w w' R G a cap l0 n i0:=by
 have H:=zH h
 have HN:=zH hn
 have HS:=zH (DnI.start hh)
 have n1:n<=1000:=by omega
 have mL:=zh4 R
 have mS:=zbv R
 have cL:=ziF
 have cS:=zev
 clear h hh hn
 go_enter Tryz.func129,Tryz.ntmps129
 go_wp2
 go_loopw [7] (fun v wr=>∃(i:Nat) (l:List (Nat × Nat)),v = .int .i64 i/\i<=1000/\DnI l0 l n i0 i/\z2A wr R G a cap l/\Kp (·=G) w wr) (fun v _=>n - (intOf v).toNat)
 case atStart=>exact⟨i0,l0,rfl,hi0,HS.out,H.out,Kp.rfl⟩
 case round =>
  obtain⟨i,l,rfl,hi,hd,hp,hk⟩:=hrel
  have hlen:l.length<=1000:=by rw[hd.len];exact hl
  have hnl:n<=l.length:=by rw[hd.len];exact HN.out
  have HL:=zH (fun(w':World) (nb:Nb wr w') (j k:Nat) (hj:j < l.length) (hk:k < l.length)=>ze2 R G a cap l w' (hp.nb nb) j k hj hk hlen)
  have HW:=zH (fun(w':World) (nb:Nb wr w') (j k:Nat) (hj:j < l.length) (hk:k < l.length)=>z8g R G a cap l w' (hp.nb nb) j k hj hk hlen)
  have HP:=zH hp
  have HD:=zH hd
  have HK:=zH hk
  have HSt:=zH (fun(h:2*i+1 < n) (hk:ahB (l.getD (kid l n i) d0) (l.getD i d0)=true)=>hd.step h hnl hk)
  clear hd hp hk
  by_cases h1:n<=2*i+1
  ·have hF:=zH (HD.out.stop1 h1)
   have d1:decide ((n:Int)<=2*(i:Int)+1)=true:=decide_eq_true (by omega)
   clear hlen hnl
   go_wp2
   go_ret
   exact⟨⟨_,rfl⟩,z5U.of HD.out HP.out HK.out HN.out hF.out⟩
  have h1':2*i+1 < n:=by omega
  have d1:decide ((n:Int)<=2*(i:Int)+1)=false:=decide_eq_false (by omega)
  have d2:decide (2*(i:Int)+1 < 0)=false:=decide_eq_false (by omega)
  clear h1
  have E2:=zH (show((2*i+2:Nat):Int)=2*(i:Int)+1+1 by omega)
  have E1:=zH (show((2*i+1:Nat):Int)=2*(i:Int)+1 by omega)
  by_cases h2:2*i+2 < n/\ahB (l.getD (2*i+2) d0) (l.getD (2*i+1) d0)=true
  ·have hk2:kid l n i=2*i+2:=by unfold kid;rw[if_pos h2]
   have L1:=zH (fun w' nb=>by have:=HL.out w' nb (2*i+2) (2*i+1) (by omega) (by omega);rw[h2.2,E1.out,E2.out]at this;exact this)
   have d3:decide (2*(i:Int)+1+1 < (n:Int))=true:=decide_eq_true (by omega)
   cases hb:ahB (l.getD (2*i+2) d0) (l.getD i d0) with
   | false =>
     have hF:=zH (HD.out.stop2 (by rw[hk2];exact hb))
     have L2:=zH (fun w' nb=>by have:=HL.out w' nb (2*i+2) i (by omega) (by omega);rw[hb,E2.out]at this;exact this)
     clear hlen hnl h2 hk2 hb HL HW HSt
     go_wp2_with fail
     refine(L1.out _ Nb.rfl).mono ?_
     rintro e w1 ⟨rfl,n1'⟩
     have N1:=zH n1'
     clear n1'
     go_wp2_with fail
     refine(L2.out _ N1.out).mono ?_
     rintro e w2 ⟨rfl,n2'⟩
     have N2:=zH (N1.out.tr n2')
     clear n2'
     go_wp2
     go_ret
     exact⟨⟨_,rfl⟩,z5U.of HD.out (HP.out.nb N2.out) (HK.out.tr (Kp.ofNb (F:=fun _=>False) N2.out) (fun _ h=>h.elim)) HN.out hF.out⟩
   | true =>
     have hD:=zH (HSt.out h1' (by rw[hk2];exact hb))
     have L2:=zH (fun w' nb=>by have:=HL.out w' nb (2*i+2) i (by omega) (by omega);rw[hb,E2.out]at this;exact this)
     have W2:=zH (fun w' nb=>by have:=HW.out w' nb i (2*i+2) (by omega) (by omega);rw[E2.out]at this;exact this)
     have HK2:=zH hk2
     have i2:2*i+2 < n:=h2.1
     clear hlen hnl h2 hk2 hb HL HW HSt
     go_wp2_with fail
     refine(L1.out _ Nb.rfl).mono ?_
     rintro e w1 ⟨rfl,n1'⟩
     have N1:=zH n1'
     clear n1'
     go_wp2_with fail
     refine(L2.out _ N1.out).mono ?_
     rintro e w2 ⟨rfl,n2'⟩
     have N2:=zH (N1.out.tr n2')
     clear n2'
     go_wp2_with fail
     refine(W2.out _ N2.out).mono ?_
     rintro e w3 ⟨rfl,p3,k3⟩
     have P3:=zH p3
     have K3:=zH ((HK.out.tr (Kp.ofNb (F:=fun _=>False) N2.out) (fun _ h=>h.elim)).tr k3 (fun _ h => .inl h))
     clear p3 k3
     go_wp2
     go_roundw
     case rel=>exact⟨2*i+2,swp l i (2*i+2),by rw[E2.out],by omega,by rw[<- HK2.out];exact hD.out,P3.out,K3.out⟩
     case measure=>simp[intOf];omega
  ·have hk2:kid l n i=2*i+1:=by unfold kid;rw[if_neg h2]
   cases hb:ahB (l.getD (2*i+1) d0) (l.getD i d0) with
   | false =>
     have hF:=zH (HD.out.stop2 (by rw[hk2];exact hb))
     have L2:=zH (fun w' nb=>by have:=HL.out w' nb (2*i+1) i (by omega) (by omega);rw[hb,E1.out]at this;exact this)
     by_cases h3:2*i+2 < n
     ·have hq:ahB (l.getD (2*i+2) d0) (l.getD (2*i+1) d0)=false:=by
       cases hq:ahB (l.getD (2*i+2) d0) (l.getD (2*i+1) d0) with
       | false=>rfl
       | true=>exact absurd ⟨h3,hq⟩ h2
      have L1:=zH (fun w' nb=>by have:=HL.out w' nb (2*i+2) (2*i+1) (by omega) (by omega);rw[hq,E1.out,E2.out]at this;exact this)
      have d3:decide (2*(i:Int)+1+1 < (n:Int))=true:=decide_eq_true (by omega)
      clear hlen hnl h2 hk2 hb hq HL HW HSt
      go_wp2_with fail
      refine(L1.out _ Nb.rfl).mono ?_
      rintro e w1 ⟨rfl,n1'⟩
      have N1:=zH n1'
      clear n1'
      go_wp2_with fail
      refine(L2.out _ N1.out).mono ?_
      rintro e w2 ⟨rfl,n2'⟩
      have N2:=zH (N1.out.tr n2')
      clear n2'
      go_wp2
      go_ret
      exact⟨⟨_,rfl⟩,z5U.of HD.out (HP.out.nb N2.out) (HK.out.tr (Kp.ofNb (F:=fun _=>False) N2.out) (fun _ h=>h.elim)) HN.out hF.out⟩
     ·have d3:decide (2*(i:Int)+1+1 < (n:Int))=false:=decide_eq_false (by omega)
      clear hlen hnl h2 hk2 hb HL HW HSt
      go_wp2_with fail
      refine(L2.out _ Nb.rfl).mono ?_
      rintro e w2 ⟨rfl,n2'⟩
      have N2:=zH n2'
      clear n2'
      go_wp2
      go_ret
      exact⟨⟨_,rfl⟩,z5U.of HD.out (HP.out.nb N2.out) (HK.out.tr (Kp.ofNb (F:=fun _=>False) N2.out) (fun _ h=>h.elim)) HN.out hF.out⟩
   | true =>
     have hD:=zH (HSt.out h1' (by rw[hk2];exact hb))
     have L2:=zH (fun w' nb=>by have:=HL.out w' nb (2*i+1) i (by omega) (by omega);rw[hb,E1.out]at this;exact this)
     have W2:=zH (fun w' nb=>by have:=HW.out w' nb i (2*i+1) (by omega) (by omega);rw[E1.out]at this;exact this)
     have HK2:=zH hk2
     by_cases h3:2*i+2 < n
     ·have hq:ahB (l.getD (2*i+2) d0) (l.getD (2*i+1) d0)=false:=by
       cases hq:ahB (l.getD (2*i+2) d0) (l.getD (2*i+1) d0) with
       | false=>rfl
       | true=>exact absurd ⟨h3,hq⟩ h2
      have L1:=zH (fun w' nb=>by have:=HL.out w' nb (2*i+2) (2*i+1) (by omega) (by omega);rw[hq,E1.out,E2.out]at this;exact this)
      have d3:decide (2*(i:Int)+1+1 < (n:Int))=true:=decide_eq_true (by omega)
      clear hlen hnl h2 hk2 hb hq HL HW HSt
      go_wp2_with fail
      refine(L1.out _ Nb.rfl).mono ?_
      rintro e w1 ⟨rfl,n1'⟩
      have N1:=zH n1'
      clear n1'
      go_wp2_with fail
      refine(L2.out _ N1.out).mono ?_
      rintro e w2 ⟨rfl,n2'⟩
      have N2:=zH (N1.out.tr n2')
      clear n2'
      go_wp2_with fail
      refine(W2.out _ N2.out).mono ?_
      rintro e w3 ⟨rfl,p3,k3⟩
      have P3:=zH p3
      have K3:=zH ((HK.out.tr (Kp.ofNb (F:=fun _=>False) N2.out) (fun _ h=>h.elim)).tr k3 (fun _ h => .inl h))
      clear p3 k3
      go_wp2
      go_roundw
      case rel=>exact⟨2*i+1,swp l i (2*i+1),by rw[E1.out],by omega,by rw[<- HK2.out];exact hD.out,P3.out,K3.out⟩
      case measure=>simp[intOf];omega
     ·have d3:decide (2*(i:Int)+1+1 < (n:Int))=false:=decide_eq_false (by omega)
      clear hlen hnl h2 hk2 hb HL HW HSt
      go_wp2_with fail
      refine(L2.out _ Nb.rfl).mono ?_
      rintro e w2 ⟨rfl,n2'⟩
      have N2:=zH n2'
      clear n2'
      go_wp2_with fail
      refine(W2.out _ N2.out).mono ?_
      rintro e w3 ⟨rfl,p3,k3⟩
      have P3:=zH p3
      have K3:=zH ((HK.out.tr (Kp.ofNb (F:=fun _=>False) N2.out) (fun _ h=>h.elim)).tr k3 (fun _ h => .inl h))
      clear p3 k3
      go_wp2
      go_roundw
      case rel=>exact⟨2*i+1,swp l i (2*i+1),by rw[E1.out],by omega,by rw[<- HK2.out];exact hD.out,P3.out,K3.out⟩
      case measure=>simp[intOf];omega
theorem zeP (R G:Nat) (a:Option Addr) (cap:Nat) (l:List (Nat × Nat)) (w:World) (h:z2A w R G a cap l) (hl:l.length<=1000) :
    Calls Tryz.prog 80 #[.iface 120 (.pointer (some ⟨R,0,none⟩))] w fun e w'=>e = .returned (.tuple #[])/\∃l',z2A w' R G a cap l'/\l'.Perm l/\HpF l' l'.length 0/\Kp (·=G) w w':=by
 have H:=zH h
 have HLn:=zH (fun w' (n:Nb w w')=>z7f R G a cap l w' (h.nb n))
 have mN:=zdu R
 have cN:=zhX
 clear h
 go_enter Tryz.func80,Tryz.ntmps80
 go_wp2_with fail
 refine(HLn.out _ Nb.rfl).mono ?_
 rintro e w1 ⟨rfl,rfl⟩
 go_wp2
 go_loopw [3] (fun v wr=>∃(k:Nat) (l':List (Nat × Nat)),v = .int .i64 ((k:Int) - 1)/\k<=l.length/\l'.length=l.length/\l'.Perm l/\HpF l' l.length k/\z2A wr R G a cap l'/\Kp (·=G) w wr) (fun v _=>(intOf v+1).toNat)
 case atStart=>exact⟨l.length / 2,l,by congr 1,by omega,rfl,List.Perm.refl _,HpF.half l (by omega),H.out,Kp.rfl⟩
 case round =>
  obtain⟨k,l',rfl,hk,hlen,hp,hf,hat,hkp⟩:=hrel
  have HF:=zH hf
  have HP:=zH hp
  have HA:=zH hat
  have HK:=zH hkp
  have HL:=zH hlen
  clear hf hp hat hkp hlen
  by_cases h0:k=0
  ·subst h0
   go_wp2
   go_end0
   exact⟨rfl,l',HA.out,HP.out,by rw[HL.out];exact HF.out,HK.out⟩
  ·obtain⟨j,rfl⟩:∃j,k=j+1:=⟨k - 1,by omega⟩
   have D:=zH (zbl R G a cap l' l.length j wr HA.out (by rw[HL.out];exact Nat.le_refl _) (by rw[HL.out];exact hl) (by omega) HF.out)
   have d0':decide (0<=((j+1:Nat):Int) - 1)=true:=decide_eq_true (by omega)
   have e0:((j+1:Nat):Int) - 1=(j:Int):=by omega
   simp only[e0]at d0' ⊢
   clear e0 h0
   go_wp2_with fail
   refine D.out.mono ?_
   rintro e w2 ⟨⟨b,rfl⟩,l2,q1,q2,q3,q4,q5,q6,q7⟩
   have Q1:=zH q1
   have Q2:=zH (q2.trans HL.out)
   have Q3:=zH (q3.trans HP.out)
   have Q6:=zH q6
   have Q7:=zH (HK.out.tr q7 (fun _ h => .inl h))
   clear q1 q2 q3 q4 q5 q6 q7
   go_wp2
   go_roundw
   case rel=>exact⟨j,l2,rfl,by omega,Q2.out,Q3.out,Q6.out,Q1.out,Q7.out⟩
   case measure=>simp[intOf]
theorem zj8{l:List (Nat × Nat)}(h:l.length=n+1):l=l.take n++[l.getD n d0]:=by
 have e:=List.take_append_drop n l
 have e2:l.drop n=[l.getD n d0]:=by
  rw[List.drop_eq_getElem_cons (by omega),List.drop_eq_nil_of_le (by omega)]
  simp[List.getD,show n < l.length by omega]
 rw[e2]at e
 exact e.symm
structure zjR(w w':World)(R G:Nat)(a:Option Addr)(cap:Nat)(l l':List (Nat × Nat))(n:Nat):Prop where
 pl:z2A w' R G a cap l'
 len:l'.length=n
 perm:l.Perm (l.getD 0 d0::l')
 heap:HpF l' l'.length 0
 kp:Kp (fun k=>k=G\/k=R) w w'
theorem zfZ (R G:Nat) (a:Option Addr) (cap:Nat) (l:List (Nat × Nat)) (n:Nat) (w:World) (h:z2A w R G a cap l) (hn:l.length=n+1) (hl:l.length<=1000) (hh:HpF l l.length 0) :
    Calls Tryz.prog 81 #[.iface 120 (.pointer (some ⟨R,0,none⟩))] w fun e w'=>e = .returned (.iface 149 (.agg #[.int .u64 ((l.getD 0 d0).1:Nat),.int .i64 ((l.getD 0 d0).2:Nat)]))/\∃l',zjR w w' R G a cap l l' n:=by
 have HLn:=zH (fun w' (n:Nb w w')=>z7f R G a cap l w' (h.nb n))
 have HSw:=zH (z8g R G a cap l w h 0 n (by omega) (by omega) hl)
 have hsl:=z72 l 0 n
 have g:=zfy l (i:=0) (j:=n) (by omega) (by omega)
 have hg0:(swp l 0 n).getD n d0=l.getD 0 d0:=by rw[g,if_pos rfl]
 have hF0:HpF l n (0+1):=fun c h1 h2 h3=>hh c h1 (by omega) (Nat.zero_le _)
 have hF1:HpF (swp l 0 n) n (0+1):=hF0.congr (fun k h1 h2=>by rw[g,if_neg (by omega),if_neg (by omega)])
 have hperm:=zb6 l (i:=0) (j:=n) (by omega) (by omega)
 have HD:=zH (fun w' (hp:z2A w' R G a cap (swp l 0 n))=>zbl R G a cap (swp l 0 n) n 0 w' hp (by omega) (by omega) (by omega) hF1)
 have HP:=zH (fun w' l2 (hp:z2A w' R G a cap l2) (h2:l2.length=n+1)=>zh9 R G a cap l2 n w' hp h2 (by omega))
 have HG:=zH hg0
 have HPm:=zH hperm
 have HSL:=zH hsl
 have HN:=zH hn
 have mN:=zdu R
 have cN:=zhX
 have mS:=zbv R
 have cS:=zev
 have mP:=zjb R
 have cP:=zk9
 rw[hn]at hl
 clear h hg0 hperm hsl g hF1 hF0 hh
 rw[hn]at HLn
 clear hn
 go_enter Tryz.func81,Tryz.ntmps81
 go_wp2_with fail
 refine(HLn.out _ Nb.rfl).mono ?_
 rintro e w1 ⟨rfl,rfl⟩
 go_wp2_with fail
 refine HSw.out.mono ?_
 rintro e w1 ⟨rfl,p1,k1⟩
 have P1:=zH p1
 have K1:=zH k1
 clear p1 k1
 go_wp2_with fail
 refine(HD.out _ P1.out).mono ?_
 rintro e w2 ⟨⟨b,rfl⟩,l2,q1,q2,q3,q4,q5,q6,q7⟩
 have Q1:=zH q1
 have Q2:=zH ((q2.trans HSL.out).trans HN.out)
 have Q3:=zH (q3.trans HPm.out)
 have Q4:=zH ((q4 n (Nat.le_refl _)).trans HG.out)
 have Q6:=zH q6
 have K2:=zH (K1.out.tr q7 (fun _ h => .inl h))
 clear q1 q2 q3 q4 q5 q6 q7
 go_wp2_with fail
 refine(HP.out _ l2 Q1.out Q2.out).mono ?_
 rintro e w3 ⟨rfl,p3,k3⟩
 have P3:=zH p3
 have LO:=zH (zj8 Q2.out)
 generalize l2.getD n d0=pe at Q4 LO ⊢
 have K3:=zH ((K2.out.mono (F':=fun k=>k=G\/k=R) (fun _ _ h => .inl h)).tr k3 (fun _ h => .inl (.inr h)))
 clear p3 k3
 go_wp2
 go_ret
 have hlen:(l2.take n).length=n:=by rw[List.length_take,Q2.out];omega
 refine⟨by rw[Q4.out];rfl,l2.take n,P3.out,hlen,?_,?_,K3.out⟩
 ·have e:=LO.out
  rw[Q4.out]at e
  have h1:=Q3.out.symm
  rw[e]at h1
  exact h1.trans List.perm_append_comm
 ·rw[hlen]
  exact Q6.out.congr (fun k _ hk=>by simp[List.getD,hk])
theorem zcl (R G:Nat) (a:Option Addr) (cap:Nat) (l:List (Nat × Nat)) (n:Nat) (w:World) (h:z2A w R G a cap l) (hn:l.length=n+1) (hl:l.length<=1000) (hh:HpF l l.length 0) :
    Calls Tryz.prog 57 #[.pointer (some ⟨R,0,none⟩)] w fun e w'=>e = .returned (.int .i64 ((l.getD 0 d0).2:Nat))/\∃l',zjR w w' R G a cap l l' n:=by
 have HP:=zH (zfZ R G a cap l n w h hn hl hh)
 clear h hn hl hh
 generalize l.getD 0 d0=p at HP ⊢
 go_enter Tryz.func57,Tryz.ntmps57
 go_wp2_with fail
 refine HP.out.mono ?_
 rintro e w1 ⟨rfl,t1⟩
 have T1:=zH t1
 clear t1
 have rT:∀w,(Instr.typeAssert (.iface 149 (.agg #[.int .u64 (p.1:Nat),.int .i64 (p.2:Nat)])) 20 149 false).run Tryz.prog w = .ok (.agg #[.int .u64 (p.1:Nat),.int .i64 (p.2:Nat)]) w:=fun _=>by kernel_rfl
 have rF:∀w,(Instr.field 149 (.agg #[.int .u64 (p.1:Nat),.int .i64 (p.2:Nat)]) 1).run Tryz.prog w = .ok (.int .i64 (p.2:Nat)) w:=fun _=>by kernel_rfl
 go_wp2
 go_ret
 exact⟨rfl,T1.out⟩
theorem zjn{done:List (Nat × Nat)}{rest:List (Nat × Nat)}(hp:(done++rest).Perm (prs ks))(hs:done.Pairwise leP)(hd:∀p∈done,∀q∈rest,leP p q)(h0:rest=[]):done=rkP ks:=by
 subst h0
 rw[List.append_nil]at hp
 exact zk8 hp hs
theorem zef {done rest rest':List (Nat × Nat)} {p:Nat × Nat} (hp:(done++rest).Perm (prs ks)) (hs:done.Pairwise leP) (hd:∀p∈done,∀q∈rest,leP p q) (hr:rest.Perm (p::rest')) (hm:∀q∈rest,leP p q) :
    ((done++[p])++rest').Perm (prs ks)/\(done++[p]).Pairwise leP/\(∀x∈done++[p],∀q∈rest',leP x q):=by
 refine⟨?_,?_,?_⟩
 ·rw[List.append_assoc]
  exact(hr.symm.append_left done).trans hp
 ·rw[List.pairwise_append]
  refine⟨hs,by simp,fun x hx y hy => ?_⟩
  simp at hy
  subst hy
  exact hd x hx y (hr.mem_iff.2 (by simp))
 ·intro x hx q hq
  have hq':q∈rest:=hr.mem_iff.2 (by simp[hq])
  rcases List.mem_append.1 hx with h | h
  ·exact hd x h q hq'
  ·simp at h
   subst h
   exact hm q hq'
theorem zlk:(Tryz.prog.info? 3).map (fun i=>(i.zero,i.size,i.bytes))=some (some (.int .i64 0),1,8):=by kernel_rfl
def z7p(w:World)(v:Value)(l:List Nat):Prop:=w.ownsRow 0 3 1 v l.length (l.map fun x:Nat=>Value.int .i64 (x:Int))
theorem z7p.nil(w:World):z7p w (.slice none 0 0) []:=World.ownsRow_nil _ _ _ _
theorem z7p.keep{F:Nat->Prop}(h:z7p w v l)(hk:Kp F w w')(hn:∀g,v.ownBlock=some g->¬F g):z7p w' v l:=by
 obtain⟨h1,h2⟩:=h
 refine⟨h1,?_⟩
 rcases h2 with h2 | ⟨g,cap,cur,rfl,hb,hg,r⟩
 ·exact .inl h2
 ·exact .inr ⟨g,cap,cur,rfl,hb,(hk.block g (Array.getElem?_eq_some_iff.1 hg).1 (hn g rfl)).trans hg,r⟩
theorem z7p.nb(h:z7p w v l)(hb:Nb w w'):z7p w' v l:=h.keep (F:=fun _=>False) (Kp.ofNb hb) (by simp)
theorem z7p.shape(h:z7p w v l):∃a c,v = .slice a l.length c/\(0 < l.length->∃g,a=some ⟨g,0,none⟩)/\l.length<=c/\c<=maxLen:=by
 rcases h.2 with ⟨rfl,h2⟩ | ⟨g,cap,cur,rfl,hb,hg,hn,hc,r⟩
 ·exact⟨none,0,by rw[h2],fun h=>by omega,by omega,by simp[maxLen]⟩
 ·exact⟨_,cap,rfl,fun _=>⟨g,rfl⟩,hn,hc⟩
theorem z7p.cell{w:World}{g n cap:Nat}{l:List Nat}(h:z7p w (.slice (some ⟨g,0,none⟩) n cap) l)(k:Nat)(hk:k < l.length):w.cell? ⟨g,k,none⟩=some (.int .i64 ((l.getD k 0:Nat):Int)):=by
 have hc:=World.ownsRow.cells h (g:=g) rfl k (.int .i64 ((l.getD k 0:Nat):Int)) (by simp[List.getD,hk])
 rwa[Addr.add_lit,Nat.zero_add]at hc
theorem zak (w:World) {o:Oper} {a:Act} {Q:Exit->Act->World->Prop}
    (hg:o.guard=none) (s x:Operand) (hop:o.op=Op.call { callee:=Callee.builtin Builtin.append,args:=#[s,x],argTypes:=#[72,72] })
    (v:Value) (l:List Nat) (hs:a.eval s=v) (hown:z7p w v l)
    (b:Nat) (y:Nat) (hx:a.eval x = .slice (some ⟨b,0,none⟩) 1 1) (hb:w.cell? ⟨b,0,none⟩=some (.int .i64 (y:Int)))
    (b1:l.length+1<=17592186044416)
    (hK:∀v' w',z7p w' v' (l++[y])->Kp (fun k=>v.ownBlock=some k) w w'->(∀g,v'.ownBlock=some g->v.ownBlock=some g\/w.heap.size<=g)->wpList Tryz.prog ops Q rest (a.put o.dst v') w') :
    wpList Tryz.prog ops Q (o::rest) a w:=by
 obtain⟨i0,hi,hz0,hz1,hz2⟩:=info_parts zlk
 refine z39 w hg s x 72 hop 3 i0 (.int .i64 0) 1 8 Tryz.underlying72 hi hz0 hz1 hz2 rfl (by decide) v l.length _ hs hown (some ⟨b,0,none⟩) 1 1 [.int .i64 (y:Int)] hx rfl (fun h=>by cases h) ?_ ?_ (by unfold maxLen;omega) (by omega) ?_
 ·intro ad had j u hu
  obtain rfl:=Option.some.inj had
  cases j with
  | zero=>simp at hu;subst hu;simpa [Addr.add]using hb
  | succ j=>simp at hu
 ·intro u hu
  simp at hu
  subst hu
  rfl
 ·intro v' w' ho hgr hbl
  exact hK v' w' (by simpa [z7p]using ho) (Kp.grown hgr (fun k hk=>hk)) hbl
def zme:Value->Nat
 | .slice _ n _=>n
 | _=>0
def zmh(w:World)(l:List Nat)(er:Nat)(e:Ending)(w':World):Prop:=∃v,e = .returned (.tuple #[v,.int .i64 (er:Nat)])/\z7p w' v l/\∀g,v.ownBlock=some g->w.heap.size<=g
def z3L(fs:List (Hd × List Nat)):List Nat:=fs.map fun p=>z0X p.1
def z4E(fs:List (Hd × List Nat)):Bool:=fs.all fun p=>okF p.1 p.2
theorem z3T(fs:List (Hd × List Nat)):(z3L fs).length=fs.length:=by simp[z3L]
theorem zds(fs:List (Hd × List Nat))(h:k < fs.length):fs.take (k+1)=fs.take k++[fs.getD k dF]:=by
 rw[List.take_add_one]
 simp[List.getD,h]
theorem zcv(fs:List (Hd × List Nat))(h:k < fs.length):z3L (fs.take (k+1))=z3L (fs.take k)++[z0X (fs.getD k dF).1]:=by
 rw[zds fs h]
 simp only[z3L,List.map_append,List.map_cons,List.map_nil]
theorem zc0(fs:List (Hd × List Nat))(h:k < fs.length):z4E (fs.take (k+1))=(z4E (fs.take k)&&okF (fs.getD k dF).1 (fs.getD k dF).2):=by
 rw[zds fs h]
 simp only[z4E,List.all_append,List.all_cons,List.all_nil,Bool.and_true]
theorem zeS{fs:List (Hd × List Nat)}(h:k < fs.length)(hb:okF (fs.getD k dF).1 (fs.getD k dF).2=false):z4E fs=false:=by
 rw[z4E,List.all_eq_false]
 refine⟨fs[k],List.getElem_mem h,?_⟩
 have e:fs.getD k dF=fs[k]:=by simp[List.getD,h]
 rw[e]at hb
 simp[hb]
def z3o(l:List (Nat × Nat)):List Value:=l.flatMap fun p=>[.int .u64 (p.1:Nat),.int .i64 (p.2:Nat)]
theorem zc9(l m:List (Nat × Nat)):z3o (l++m)=z3o l++z3o m:=by simp[z3o]
theorem zcb(l:List (Nat × Nat)):∀j,j < l.length->(z3o l)[j*2]? = some (.int .u64 ((l.getD j d0).1:Nat))/\(z3o l)[j*2+1]? = some (.int .i64 ((l.getD j d0).2:Nat)):=by
 induction l with
 | nil=>intro j h;simp at h
 | cons p l ih =>
   intro j h
   have e:z3o (p::l) = .int .u64 (p.1:Nat) :: .int .i64 (p.2:Nat)::z3o l:=rfl
   rw[e]
   cases j with
   | zero=>exact⟨rfl,rfl⟩
   | succ j =>
     have:=ih j (by simpa using h)
     rw[show(j+1)*2=j*2+1+1 by omega]
     simpa using this
theorem zeK:(Tryz.prog.info? 149).map (fun i=>(i.zero,i.size,i.bytes))=some (some (.agg #[.int .u64 0,.int .i64 0]),2,16):=by kernel_rfl
def z8C(w:World)(v:Value)(l:List (Nat × Nat)):Prop:=w.ownsRow 0 149 2 v l.length (z3o l)
theorem z8C.nil(w:World):z8C w (.slice none 0 0) []:=World.ownsRow_nil _ _ _ _
theorem z8C.keep{F:Nat->Prop}{l:List (Nat × Nat)}(h:z8C w v l)(hk:Kp F w w')(hn:∀g,v.ownBlock=some g->¬F g):z8C w' v l:=by
 obtain⟨h1,h2⟩:=h
 refine⟨h1,?_⟩
 rcases h2 with h2 | ⟨g,cap,cur,rfl,hb,hg,r⟩
 ·exact .inl h2
 ·exact .inr ⟨g,cap,cur,rfl,hb,(hk.block g (Array.getElem?_eq_some_iff.1 hg).1 (hn g rfl)).trans hg,r⟩
theorem z8C.nb{l:List (Nat × Nat)}(h:z8C w v l)(hb:Nb w w'):z8C w' v l:=h.keep (F:=fun _=>False) (Kp.ofNb hb) (by simp)
theorem z8C.shape{l:List (Nat × Nat)}(h:z8C w v l):∃a c,v = .slice a l.length c:=by
 rcases h.2 with ⟨rfl,h2⟩ | ⟨g,cap,cur,rfl,_⟩
 ·exact⟨none,0,by rw[h2]⟩
 ·exact⟨_,cap,rfl⟩
theorem z8C.pl{l:List (Nat × Nat)}(h:z8C w v l)(hb:Blk w R #[v,ahF] 152)(hc:l.length<=1000)(hv:∀g,v.ownBlock=some g->R < g)(hB:B<=R):∃G a cap,v = .slice a l.length cap/\z2A w R G a cap l/\B<=G:=by
 rcases h.2 with ⟨rfl,h2⟩ | ⟨g,cap,cur,rfl,hb0,hg,hn,hc,hs,ht⟩
 ·refine⟨R+1,none,0,by rw[h2],⟨by rw[h2];exact hb,by omega,by omega,by omega,fun h0=>by omega⟩,by omega⟩
 ·have hRg:=hv g rfl
  unfold maxLen at hc
  refine⟨g,some ⟨g,0,none⟩,cap,rfl,⟨hb,by omega,hn,hc,fun _=>⟨rfl,cur,hg,by omega,fun j hj => ?_⟩⟩,by omega⟩
  obtain⟨e1,e2⟩:=zcb l j hj
  rw[<- ht,List.getElem?_take_of_lt (by omega),Array.getElem?_toList]at e1 e2
  exact⟨e1,e2⟩
theorem za4 (w:World) {o:Oper} {a:Act} {Q:Exit->Act->World->Prop}
    (hg:o.guard=none) (s x:Operand) (hop:o.op=Op.call { callee:=Callee.builtin Builtin.append,args:=#[s,x],argTypes:=#[150,150] })
    (v:Value) (l:List (Nat × Nat)) (hs:a.eval s=v) (hown:z8C w v l)
    (b:Nat) (p:Nat × Nat) (hx:a.eval x = .slice (some ⟨b,0,none⟩) 1 1) (hb0:w.cell? ⟨b,0,none⟩=some (.int .u64 (p.1:Nat))) (hb1:w.cell? ⟨b,1,none⟩=some (.int .i64 (p.2:Nat)))
    (b1:l.length+1<=4398046511104)
    (hK:∀v' w',z8C w' v' (l++[p])->Kp (fun k=>v.ownBlock=some k) w w'->(∀g,v'.ownBlock=some g->v.ownBlock=some g\/w.heap.size<=g)->wpList Tryz.prog ops Q rest (a.put o.dst v') w') :
    wpList Tryz.prog ops Q (o::rest) a w:=by
 obtain⟨i0,hi,hz0,hz1,hz2⟩:=info_parts zeK
 refine z39 w hg s x 150 hop 149 i0 (.agg #[.int .u64 0,.int .i64 0]) 2 16 Tryz.underlying150 hi hz0 hz1 hz2 rfl (by decide) v l.length _ hs hown (some ⟨b,0,none⟩) 1 1 [.int .u64 (p.1:Nat),.int .i64 (p.2:Nat)] hx rfl (fun h=>by cases h) ?_ ?_ (by unfold maxLen;omega) (by omega) ?_
 ·intro ad had j u hu
  obtain rfl:=Option.some.inj had
  match j,hu with
  | 0,hu=>simp at hu;subst hu;simpa [Addr.add]using hb0
  | 1,hu=>simp at hu;subst hu;simpa [Addr.add]using hb1
  | j+2,hu=>simp at hu
 ·intro u hu
  simp at hu
  rcases hu with rfl | rfl<;>rfl
 ·intro v' w' ho hgr hbl
  exact hK v' w' (by simpa [z8C,zc9,z3o]using ho) (Kp.grown hgr (fun k hk=>hk)) hbl
def zko(w:World)(fs:List (Hd × List Nat))(e:Ending)(w':World):Prop :=
 if z4E fs then ∃R G a cap l,e = .returned (.tuple #[.pointer (some ⟨R,0,none⟩),.int .i64 0])/\z2A w' R G a cap l/\l.Perm (prs (z3L fs))/\HpF l l.length 0/\w.heap.size<=R/\w.heap.size<=G
 else e = .returned (.tuple #[.pointer none,.int .i64 2])
theorem z8f (a:Option Addr) (cap:Nat) (fs:List (Hd × List Nat)) (w:World) (h:z28 w a cap fs) (hn:fs.length<=1000) (hl:zV w) :
    Calls Tryz.prog 55 #[.slice a fs.length cap] w fun e w'=>zko w fs e w'/\Nb w w':=by
 have HF:=zH h
 have HL:=zH hl
 have hL:=h.len
 have hcap:=h.hcap
 clear h hl
 have HB:=zH (Blk.new w #[.slice none 0 0,ahF] 152)
 unfold ahF at HB
 go_enter Tryz.func55,Tryz.ntmps55
 go_wp2
 generalize hw0:w.alloc (.cells #[.slice none 0 0,.func (.func 79) #[] #[]] 152)=w0 at HB ⊢
 have HN0:=zH (show Nb w w0 by rw[<- hw0];exact Nb.rfl.al _)
 have HSz:=zH (show w0.heap.size=w.heap.size+1 by rw[<- hw0,World.size_alloc])
 clear hw0
 obtain⟨R,hR⟩:∃R,R=w.heap.size:=⟨_,rfl⟩
 have HR:=zH hR
 rw[<- hR]at HB ⊢
 have hRl:=HB.out.lt
 clear hR
 go_loopw [13] (fun ix wr=>∃(k:Nat) (v:Value),k<=fs.length/\ix = .int .i64 k/\z4E (fs.take k)=true/\Blk wr R #[v,.func (.func 79) #[] #[]] 152/\z8C wr v (prs (z3L (fs.take k)))/\(∀g,v.ownBlock=some g->R < g)/\Nb w wr) (fun ix _=>fs.length - (intOf ix).toNat)
 case atStart=>exact⟨0,.slice none 0 0,Nat.zero_le _,rfl,by simp[z4E],HB.out,z8C.nil _,by simp[Value.ownBlock],HN0.out⟩
 case round =>
  obtain⟨k,v,hk,rfl,hok,hb,ho,hv,hnb⟩:=hrel
  have HK:=zH hok
  have HBl:=zH hb
  have HO:=zH ho
  have HV:=zH hv
  have HN:=zH hnb
  clear hok hb ho hv hnb
  by_cases hlt:k < fs.length
  ·obtain⟨b,o,rfl,hcc⟩:=HF.out.hcells (by omega)
   clear hcc
   have hat:=fun K I X R B E S D V A l=>(HF.out.below HN.out).at hlt (K:=K) (I:=I) (X:=X) (R:=R) (B:=B) (E:=E) (S:=S) (D:=D) (V:=V) (A:=A) (l:=l)
   have HT:=zH (zcv fs hlt)
   have HA:=zH (zc0 fs hlt)
   have HBad:=zH (fun hb=>zeS (fs:=fs) hlt hb)
   obtain⟨⟨⟨K,I,X,RT,B,E,S,D,V,A⟩,l⟩,hf⟩:∃p,p=fs.getD k dF:=⟨_,rfl⟩
   obtain⟨a',c',⟨c0,c1,c2,c3,c4,c5,c6,c7,c8,c9,c10⟩,hW,hKw,hBs,hnn⟩:=hat K I X RT B E S D V A l hf.symm
   rw[<- hf]at HT HA HBad
   clear hat hf
   have KC0:=(fun w' (n:Nb wr w')=>z9F ⟨K,I,X,RT,B,E,S,D,V,A⟩ a' c' l w' (hBs.below n) hW.1 ((HL.out.below HN.out).below n))
   unfold zl8 at KC0
   simp only[Hd.cs]at KC0
   have KC:=zH KC0
   clear KC0
   have HLv:=zH (z3T (fs.take k))
   have hlL:=hBs.len
   clear hW hKw hBs hnn
   have hi:(k:Int) < (fs.length:Int):=by omega
   obtain⟨va,vc,hve⟩:=HO.out.shape
   subst hve
   cases hcase:okF ⟨K,I,X,RT,B,E,S,D,V,A⟩ l with
   | false =>
     rw[show zt ⟨K,I,X,RT,B,E,S,D,V,A⟩ l=2 by simp[zt,hcase]]at KC
     generalize zhs ⟨K,I,X,RT,B,E,S,D,V,A⟩ l=kv at KC
     have hbad:=HBad.out hcase
     have HX:=zH hbad
     clear hcase hbad HBad HA HT HK
     go_wp2_with fail
     refine(KC.out _ (Nb.rfl.al _)).mono ?_
     rintro e w1 ⟨rfl,n1⟩
     have N1:=zH (HN.out.tr ((Nb.rfl.al _).tr n1))
     clear n1 c0 c1 c2 c3 c4 c5 c6 c7 c8 c9 c10
     go_wp2
     go_ret2
     refine⟨?_,N1.out⟩
     unfold zko
     rw[if_neg (by rw[HX.out];simp)]
     rfl
   | true =>
     rw[show zt ⟨K,I,X,RT,B,E,S,D,V,A⟩ l=0 by simp[zt,hcase],show zhs ⟨K,I,X,RT,B,E,S,D,V,A⟩ l=z0X ⟨K,I,X,RT,B,E,S,D,V,A⟩ by simp[zhs,hcase]]at KC
     have HA2:=zH (show z4E (fs.take (k+1))=true by rw[HA.out,HK.out];simpa using hcase)
     simp only at HT
     generalize z0X ⟨K,I,X,RT,B,E,S,D,V,A⟩=kf at KC HT
     clear hcase HBad HA HK
     have hpl:(prs (z3L (fs.take k))).length=k:=by rw[prs,List.length_zipIdx,HLv.out,List.length_take];omega
     have HPl:=zH hpl
     have HT2:=zH (show prs (z3L (fs.take (k+1)))=prs (z3L (fs.take k))++[(kf,k)] by rw[HT.out,zhr,HLv.out,List.length_take,Nat.min_eq_left (by omega)])
     clear HT HLv hpl
     go_wp2_with fail
     refine(KC.out _ (Nb.rfl.al _)).mono ?_
     rintro e w1 ⟨rfl,n1⟩
     have m1:Nb wr w1:=(Nb.rfl.al _).tr n1
     have N1:=zH (HN.out.tr m1)
     have B1:=zH (HBl.out.nb m1)
     have d0:=B1.out.cell 0
     have d1:=B1.out.frozen 0
     have hR1:=B1.out.lt
     simp only[List.getElem?_toArray,List.getElem?_cons_zero]at d0
     have O1:=zH (HO.out.nb m1)
     clear n1 m1 c0 c1 c2 c3 c4 c5 c6 c7 c8 c9 c10 HO KC
     go_wp2_with (at_builtin;refine za4 _ rfl (.tmp 30) (.tmp 34) rfl _ _ rfl (O1.out.nb (Nb.rfl.al _)) w1.heap.size (kf,k) rfl (by simp) (by simp) (by rw[HPl.out];omega) ?_)
     intro v2 w2 ho2 hk2 hf2
     have B2:=zH ((B1.out.nb (Nb.rfl.al _)).keep hk2 (fun hg=>by have:=HV.out R hg;omega))
     have V2:=zH (show ∀g,v2.ownBlock=some g->R < g from fun g hg=>by
      rcases hf2 g hg with h | h
      ·exact HV.out g h
      ·first | omega | (simp at h;omega))
     have hR2:=B2.out.lt
     have x0:=B2.out.cell 0
     have x1:=B2.out.frozen 0
     simp only[List.getElem?_toArray,List.getElem?_cons_zero]at x0
     have N2:=zH ((N1.out.al _).trans (hk2.toBelow (Nat.le_trans N1.out.size (by simp)) (fun g hg=>by have:=HV.out g hg;have:=HR.out;omega)))
     obtain⟨vb,vd,hve2⟩:=ho2.shape
     rw[List.length_append,HPl.out,List.length_singleton]at hve2
     subst hve2
     have O2:=zH ho2
     clear ho2 hk2 hf2 d0 d1 hR1
     go_wp2
     go_roundw
     case rel =>
      refine⟨k+1,_,by omega,by go_num,HA2.out,B2.out.set 0 _,?_,V2.out,Nb.st N2.out (by show w.heap.size<=R;rw[HR.out];exact Nat.le_refl _) _⟩
      rw[HT2.out]
      exact O2.out.keep (F:=fun x=>x=R) (Kp.set (p:=⟨R,0,none⟩) (show R=R from rfl)) (fun g hg=>by have:=V2.out g hg;omega)
     case measure=>simp[intOf];omega
  ·obtain rfl:k=fs.length:=by omega
   have HBk:=zH (HBl.out)
   obtain⟨G,va,vc,rfl,hpl,hG⟩:=HO.out.pl (B:=R) HBl.out (by rw[prs,List.length_zipIdx,z3T,List.length_take];omega) HV.out (Nat.le_refl _)
   rw[List.take_length]at hpl HK
   have hlp:(prs (z3L fs)).length<=1000:=by rw[prs,List.length_zipIdx,z3T];exact hn
   have HI:=zH (zeP R G va vc (prs (z3L fs)) wr hpl hlp)
   clear hpl hlp HBk HBl HO HV
   go_wp2_with fail
   refine HI.out.mono ?_
   rintro e w1 ⟨rfl,l1,p1,q1,h1,k1⟩
   have P1:=zH p1
   have Q1:=zH q1
   have H1:=zH h1
   have N1:=zH (HN.out.trans (k1.toBelow HN.out.size (fun g hg=>by have:=HR.out;omega)))
   clear p1 q1 h1 k1
   go_wp2
   go_ret2
   refine⟨?_,N1.out⟩
   unfold zko
   rw[if_pos HK.out]
   have:=HR.out
   exact⟨R,G,va,vc,l1,rfl,P1.out,Q1.out,H1.out,by omega,by omega⟩
def zkR(fs:List (Hd × List Nat)):List Nat:=if z4E fs then rk (z3L fs)else []
def zkj(fs:List (Hd × List Nat)):Nat:=if z4E fs then 0 else 2
theorem zjC (a:Option Addr) (cap:Nat) (fs:List (Hd × List Nat)) (w:World) (h:z28 w a cap fs) (hn:fs.length<=1000) (hl:zV w) :
    Calls Tryz.prog 29 #[.slice a fs.length cap] w fun e w'=>zmh w (zkR fs) (zkj fs) e w'/\Nb w w':=by
 have HP:=zH (z8f a cap fs w h hn hl)
 have hL:=h.len
 clear h hl
 unfold zkj zkR
 cases hok:z4E fs with
 | false =>
   simp only[Bool.false_eq_true,if_false]
   unfold zko at HP
   simp only[hok,Bool.false_eq_true,if_false]at HP
   clear hok
   go_enter Tryz.func29,Tryz.ntmps29
   go_wp2_with fail
   refine HP.out.mono ?_
   rintro e w1 ⟨rfl,n1⟩
   have N1:=zH n1
   clear n1
   go_wp2
   go_ret2
   exact⟨⟨_,rfl,z7p.nil _,by simp[Value.ownBlock]⟩,N1.out⟩
 | true =>
   simp only[if_true]
   unfold zko at HP
   simp only[hok,if_true]at HP
   clear hok
   have hkl:=z3T fs
   generalize z3L fs=ks at *
   go_enter Tryz.func29,Tryz.ntmps29
   go_wp2_with fail
   refine HP.out.mono ?_
   rintro e w1 ⟨⟨R,G,b,c,l,rfl,p1,q1,h1,hR,hG⟩,n1⟩
   have N1:=zH n1
   have hll:l.length=fs.length:=by rw[q1.length_eq,prs,List.length_zipIdx,hkl]
   have P1:=zH p1
   have Q1:=zH q1
   have H1:=zH h1
   have HR:=zH hR
   have HG:=zH hG
   have HKL:=zH hkl
   have HLL:=zH hll
   clear n1 p1 q1 h1 hR hG hkl hll
   go_wp2
   go_loopw [6] (fun v wr=>∃(done rest:List (Nat × Nat)),z2A wr R G b c rest/\HpF rest rest.length 0/\(0 < rest.length->G < wr.heap.size)/\Hid ((done++rest).Perm (prs ks)/\done.Pairwise leP/\∀p∈done,∀q∈rest,leP p q)/\z7p wr v (done.map (·.2))/\(∀g,v.ownBlock=some g->w.heap.size<=g/\g≠G/\g≠R)/\Nb w wr) (fun v _=>fs.length - zme v)
   case atStart=>exact⟨[],l,P1.out,H1.out,fun h0=>(P1.out.rows h0).2.lt,zH ⟨by simpa using Q1.out,by simp,by simp⟩,z7p.nil _,by simp[Value.ownBlock],N1.out⟩
   case round =>
    obtain⟨done,rest,hp,hh,hgl,hz,ho,hv,hnb⟩:=hrel
    have hlen:done.length+rest.length=fs.length:=by
     have:=hz.out.1.length_eq
     rw[List.length_append,prs,List.length_zipIdx,HKL.out]at this
     exact this
    obtain⟨va,vc,hve,hva,_,_⟩:=ho.shape
    rw[List.length_map]at hve
    subst hve
    have HO:=zH ho
    have HV:=zH hv
    have HN:=zH hnb
    have HZ:=zH hz
    have HPl:=zH hp
    have HGl:=zH hgl
    have PL:=zH (z7f R G b c rest wr hp)
    by_cases h0:rest.length=0
    ·have hr:rest=[]:=List.length_eq_zero_iff.1 h0
     have hd:=zjn HZ.out.out.1 HZ.out.out.2.1 HZ.out.out.2.2 hr
     have HD:=zH hd
     rw[h0]at PL
     clear ho hv hnb hz hp hgl hh hr hd h0 hva
     go_wp2_with fail
     refine PL.out.mono ?_
     rintro e w2 ⟨rfl,rfl⟩
     go_wp2
     go_ret2
     exact⟨⟨_,rfl,by rw[rk,<- HD.out];exact HO.out,fun g hg=>(HV.out g hg).1⟩,HN.out⟩
    ·obtain⟨n,hn1⟩:∃n,rest.length=n+1:=⟨rest.length - 1,by omega⟩
     have hG:=hgl (by omega)
     have TK:=zH (zcl R G b c rest n wr hp hn1 (by omega) hh)
     have HM:=zH (fun q hq=>by
      obtain⟨j,hj,rfl⟩:=List.getElem_of_mem (l:=rest) (a:=q) hq
      have:=hh.min j hj
      rw[show rest.getD j d0=rest[j] by simp[List.getD,hj]]at this
      exact this:∀q∈rest,leP (rest.getD 0 d0) q)
     rw[hn1]at PL
     have hRl:=hp.blk.lt
     have hdl:done.length+(n+1)=fs.length:=by omega
     obtain⟨p,hp0⟩:∃p,p=rest.getD 0 d0:=⟨_,rfl⟩
     rw[<- hp0]at TK HM
     have HPE:=zH hp0
     clear hp0
     clear ho hv hnb hz hp hgl hh h0 hva hlen
     go_wp2_with fail
     refine PL.out.mono ?_
     rintro e w2 ⟨rfl,rfl⟩
     go_wp2_with fail
     refine TK.out.mono ?_
     rintro e w3 ⟨rfl,l',tk⟩
     have T3:=zH tk
     have E3:=zH (show rest.Perm (p::l') by rw[HPE.out];exact tk.perm)
     have hG3:G < w3.heap.size:=by have:=tk.kp.size;omega
     have hR3:R < w3.heap.size:=by have:=tk.kp.size;omega
     have N3:=zH (HN.out.trans (tk.kp.toBelow HN.out.size (fun g hg=>by have:=HR.out;have:=HG.out;omega)))
     have O3:=zH (HO.out.keep tk.kp (fun g hg hh=>by have:=HV.out g hg;omega))
     clear tk
     go_wp2_with (at_builtin;refine zak _ rfl (.tmp 18) (.tmp 21) rfl _ _ rfl (O3.out.nb (Nb.rfl.al _)) w3.heap.size p.2 rfl (by simp) (by rw[List.length_map];omega) ?_)
     intro v4 w4 ho4 hk4 hf4
     have V4:=zH (show ∀g,v4.ownBlock=some g->w.heap.size<=g/\g≠G/\g≠R from fun g hg=>by
      rcases hf4 g hg with h | h
      ·exact HV.out g h
      ·have:=N3.out.size
       first | omega | (simp at h;omega))
     have N4:=zH ((Nb.al N3.out _).trans (hk4.toBelow (Nat.le_trans N3.out.size (by simp)) (fun g hg=>(HV.out g hg).1)))
     have hks:w3.heap.size < w4.heap.size:=by have:=hk4.size;simp at this;omega
     have P4:=zH ((T3.out.pl.nb (Nb.rfl.al _)).keep hk4 (fun hg=>(HV.out R hg).2.2 rfl) (fun hg=>(HV.out G hg).2.1 rfl))
     obtain⟨va4,vc4,hve4,_,_,_⟩:=ho4.shape
     have hll4:(done.map (·.2)++[p.2]).length=done.length+1:=by simp
     rw[hll4]at hve4
     subst hve4
     have O4:=zH ho4
     clear ho4 hk4 hf4 hll4
     go_wp2
     go_roundw
     case rel =>
      obtain⟨z1,z2,z3⟩:=zef HZ.out.out.1 HZ.out.out.2.1 HZ.out.out.2.2 E3.out HM.out
      exact⟨done++[p],l',P4.out,T3.out.heap,fun _=>by omega,zH ⟨z1,z2,z3⟩,by rw[List.map_append];exact O4.out,V4.out,N4.out⟩
     case measure=>simp[zme];omega
open Go.RowKit Go.Maps
def Dm(rs:List Nat):DataW Unit:=Go.Maps.setOf (.lit (.bool true)) (rs.map fun p:Nat=>Lit.int .i64 (p:Int))
theorem zlQ(rs:List Nat)(p:Nat):Dm (rs++[p])=(Dm rs).put (.int .i64 (p:Int)) (.lit (.bool true)):=by
 unfold Dm
 rw[List.map_append,List.map_cons,List.map_nil,Go.Maps.setOf_snoc]
theorem zj2(h:q∉rs)(z:DataW Unit):(Dm rs).atKey (.int .i64 (q:Int)) z=z:=by
 apply Go.Maps.atKey_of_not_has
 rw[Dm,Go.Maps.has_setOf _ _ _ (by intro x hx;obtain⟨p,_,rfl⟩:=List.mem_map.1 hx;trivial)]
 rw[List.any_eq_false]
 intro x hx
 obtain⟨p,hp,rfl⟩:=List.mem_map.1 hx
 rw[Go.Maps.sameKey_ne (by intro he;simp only[Lit.int.injEq,true_and]at he;exact h (by rw[show q=p by omega];exact hp))]
 simp
theorem zgx:Keyed Tryz.prog 3:=int_keyed Tryz.underlying3
theorem zk7(p:Nat)(h:p<=1000):keyOf Tryz.prog 3 (.int .i64 (p:Int))=some (.int .i64 (p:Int)):=keyOf_int_mk Tryz.underlying3 (by simp[Lit.wf,IntKind.min,IntKind.max,IntKind.signed,IntKind.bits];omega)
theorem z3p{P:Program}{e:TypeId}(he:P.underlying e=some .bool){z:DataW Unit × List MemPlace}(h:plainElem (H:=Unit) P e v=some z):∃x,v = .bool x/\z=(.lit (.bool x),[]):=by
 unfold plainElem at h
 rw[he]at h
 cases v<;>simp at h
 exact⟨_,rfl,h.symm⟩
theorem zm9 (h:w.ownsMap Tryz.prog 3 (plainElem (H:=Unit) Tryz.prog 4) B n (Dm rs)) (hq:q∉rs) (hq1:q<=1000) :
    (Instr.lookup 75 (.map (some B)) (.int .i64 (q:Int)) false).run Tryz.prog w = .ok (.bool false) w:=by
 obtain⟨v,ps,hrun,hv⟩:=h.lookup zgx Tryz.underlying75 (show(zeroValue 4).run Tryz.prog w = .ok (.bool false) w by kernel_rfl) (plainElem_bool Tryz.underlying4 false) (zk7 q hq1)
 rw[zj2 hq]at hv
 obtain⟨x,rfl,hx⟩:=z3p Tryz.underlying4 hv
 simp only[Prod.mk.injEq,DataW.lit.injEq,Lit.bool.injEq]at hx
 rw[hrun,<- hx.1]
theorem zjJ{D:DataW Unit}(h:w.ownsMap Tryz.prog 3 (plainElem (H:=Unit) Tryz.prog 4) B n D)(hb:Nb w w'):w'.ownsMap Tryz.prog 3 (plainElem (H:=Unit) Tryz.prog 4) B n D:=by
 have hl:=h.lt
 obtain⟨es,c,h1,h2,h3,h4⟩:=h
 exact⟨es,c,(hb.block B hl).trans h1,h2,h3,h4⟩
end Go.Proofs.YtkjjfnmeogpdbaaGreatDoor
