/- Things in a heap by their keys, and more. Conditions: as each says. -/
import Derived.Test.YtplbmlpdefpplaaGreatDoorGhh
import Derived.Deep.RegionLawGrows
set_option maxHeartbeats 8000000
set_option maxRecDepth 100000
namespace Go.Proofs.YtplbmlpdefpplaaGreatDoor
set_option linter.unusedVariables false
set_option linter.unusedSimpArgs false
open Go.RowKit
variable {R cap g i i0 j n:Nat} {F Q:Nat->Prop} {v:Value} {w w':World}
def gsw{α:Type}(d:α)(l:List α)(i j:Nat):List α:=(l.set i (l.getD j d)).set j (l.getD i d)
theorem zmr{α:Type}(d:α)(l:List α)(i j:Nat):(gsw d l i j).length=l.length:=by simp[gsw]
theorem zc2 {α:Type} (d:α) (l:List α) (hi:i < l.length) (hj:j < l.length) (k:Nat) :
    (gsw d l i j).getD k d=if k=j then l.getD i d else if k=i then l.getD j d else l.getD k d:=by
 unfold gsw
 generalize l.getD j d=u
 generalize l.getD i d=v
 by_cases h1:k=j
 ·subst h1
  simp[List.getD,hj]
 ·rw[if_neg h1,List.getD,List.getElem?_set_ne (Ne.symm h1)]
  by_cases h2:k=i
  ·subst h2
   simp[hi]
  ·rw[if_neg h2,List.getElem?_set_ne (Ne.symm h2)];rfl
theorem zmw{α:Type}(d:α)(l:List α)(hi:i < l.length)(hj:j < l.length):(gsw d l i j).Perm l:=by
 have e1:l.getD j d=l[j]:=by simp[List.getD,hj]
 have e2:l.getD i d=l[i]:=by simp[List.getD,hi]
 unfold gsw
 rw[e1,e2]
 exact List.set_set_perm hi hj
theorem zmK{α:Type}(d:α){l m:List α}(hl:l.length=m.length)(h:∀k,k < l.length->l.getD k d=m.getD k d):l=m:=by
 apply List.ext_getElem hl
 intro k h1 h2
 have:=h k h1
 simpa [List.getD,h1,h2]using this
section
variable {α:Type} (d:α) (kp:α->Nat × Nat)
def leG(x y:α):Prop:=leP (kp x) (kp y)
def ahG(x y:α):Bool:=ahB (kp x) (kp y)
def HeQ(Q:Nat->Prop)(l:List α)(n:Nat):Prop:=∀c,0 < c->c < n->Q c->leG kp (l.getD ((c - 1) / 2) d) (l.getD c d)
abbrev zmp:Nat->Prop:=fun _=>True
theorem HeQ.min{l:List α}(h:HeQ d kp zmp l n):∀c,c < n->leG kp (l.getD 0 d) (l.getD c d):=by
 intro c
 induction c using Nat.strongRecOn with
 | _ c ih =>
   intro hc
   by_cases h0:c=0
   ·subst h0;exact z7o _
   ·exact z61 (ih ((c - 1) / 2) (by omega) (by omega)) (h c (by omega) hc trivial)
theorem HeQ.congr{l l':List α}(h:HeQ d kp Q l n)(he:∀k,k < n->l'.getD k d=l.getD k d):HeQ d kp Q l' n:=fun c h1 h2 h3=>by
 rw[he _ (by omega),he c h2]
 exact h c h1 h2 h3
structure DnG(Q:Nat->Prop)(l0 l:List α)(n i0 i:Nat):Prop where
 len:l.length=l0.length
 perm:l.Perm l0
 rest:∀k,n<=k->l.getD k d=l0.getD k d
 low:∀k,k < i0->l.getD k d=l0.getD k d
 stay:i=i0->l=l0
 top:i0 < i->leG kp (l.getD i0 d) (l0.getD i0 d)/\∃c,0 < c/\c < n/\(c - 1) / 2=i0/\l.getD i0 d=l0.getD c d
 heap:∀c,0 < c->c < n->Q c->(c - 1) / 2≠i->leG kp (l.getD ((c - 1) / 2) d) (l.getD c d)
 over:i0 < i->∀c,0 < c->c < n->(c - 1) / 2=i->leG kp (l.getD ((i - 1) / 2) d) (l.getD c d)
 from0:i0<=i
 par:i0 < i->i0<=(i - 1) / 2
theorem DnG.start{l:List α}(h:∀c,0 < c->c < n->Q c->(c - 1) / 2≠i0->leG kp (l.getD ((c - 1) / 2) d) (l.getD c d)):DnG d kp Q l l n i0 i0 :=
 ⟨rfl,List.Perm.refl _,fun _ _=>rfl,fun _ _=>rfl,fun _=>rfl,fun h=>by omega,h,fun h=>by omega,Nat.le_refl _,fun h=>by omega⟩
def zmC(l:List α)(n i:Nat):Nat:=if 2*i+2 < n/\ahG kp (l.getD (2*i+2) d) (l.getD (2*i+1) d)=true then 2*i+2 else 2*i+1
theorem zn9(l:List α)(n i:Nat):(zmC d kp l n i=2*i+1\/zmC d kp l n i=2*i+2/\2*i+2 < n):=by
 unfold zmC
 split
 ·rename_i h;exact .inr ⟨rfl,h.1⟩
 ·exact .inl rfl
theorem zmI{l:List α}{c:Nat}(h0:0 < c)(hc:c < n)(hp:(c - 1) / 2=i):leG kp (l.getD (zmC d kp l n i) d) (l.getD c d):=by
 have:c=2*i+1\/c=2*i+2:=by omega
 unfold zmC
 split
 ·rename_i h
  rcases this with rfl | rfl
  ·exact zf0 ((z7w _ _).1 h.2)
  ·exact z7o _
 ·rename_i h
  rcases this with rfl | rfl
  ·exact z7o _
  ·by_cases hb:ahG kp (l.getD (2*i+2) d) (l.getD (2*i+1) d)=true
   ·exact absurd ⟨hc,hb⟩ h
   ·have:=mt (z7w _ _).2 hb
    show leP _ _
    exact Decidable.not_not.1 this
theorem DnG.stop1{l0 l:List α}(h:DnG d kp Q l0 l n i0 i)(hn:n<=2*i+1):HeQ d kp Q l n:=fun c h1 h2 h3=>h.heap c h1 h2 h3 (by omega)
theorem DnG.stop2{l0 l:List α}(h:DnG d kp Q l0 l n i0 i)(hk:ahG kp (l.getD (zmC d kp l n i) d) (l.getD i d)=false):HeQ d kp Q l n:=fun c h1 h2 h3=>by
 by_cases hc:(c - 1) / 2=i
 ·rw[hc]
  have h4:leG kp (l.getD i d) (l.getD (zmC d kp l n i) d):=by
   have:=mt (z7w (kp (l.getD (zmC d kp l n i) d)) (kp (l.getD i d))).2 (by unfold ahG at hk;rw[hk];simp)
   show leP _ _
   exact Decidable.not_not.1 this
  exact z61 h4 (zmI d kp h1 h2 hc)
 ·exact h.heap c h1 h2 h3 hc
theorem DnG.step {l0 l:List α} (h:DnG d kp Q l0 l n i0 i) (hq:¬Q i0\/i0=0) (hq2:∀c,i0<=(c - 1) / 2->0 < c->Q c) (hn:2*i+1 < n) (hl:n<=l.length) (hk:ahG kp (l.getD (zmC d kp l n i) d) (l.getD i d)=true) :
    DnG d kp Q l0 (gsw d l i (zmC d kp l n i)) n i0 (zmC d kp l n i):=by
 have hj:=zn9 d kp l n i
 have hm:=fun c h0 hc hp=>zmI d kp (l:=l) (n:=n) (i:=i) (c:=c) h0 hc hp
 generalize hkk:zmC d kp l n i=j at *
 have hle:leG kp (l.getD j d) (l.getD i d):=zf0 ((z7w _ _).1 hk)
 have hi:i < l.length:=by omega
 have hjl:j < l.length:=by omega
 have g:=zc2 d l hi hjl
 have f0:=h.from0
 refine⟨by rw[zmr,h.len],(zmw d l hi hjl).trans h.perm,fun k hk => ?_,fun k hk => ?_,fun e=>by omega,fun _ => ?_,fun c h1 h2 h3 h4 => ?_,fun h0 c h1 h2 h3 => ?_,by omega,fun _=>by omega⟩
 ·rw[g,if_neg (by omega),if_neg (by omega)]
  exact h.rest k hk
 ·rw[g,if_neg (by omega),if_neg (by omega)]
  exact h.low k hk
 ·by_cases e:i=i0
  ·have hs:=h.stay e
   rw[g,if_neg (by omega),if_pos e.symm]
   refine⟨by rw[<- hs,<- e];exact hle,j,by omega,by omega,by omega,by rw[hs]⟩
  ·rw[g,if_neg (by omega),if_neg (fun q=>e q.symm)]
   exact h.top (by omega)
 ·by_cases hp:(c - 1) / 2=i
  ·rw[hp,g,if_neg (by omega),if_pos rfl,g]
   by_cases hcj:c=j
   ·rw[if_pos hcj];exact hle
   ·rw[if_neg hcj,if_neg (by omega)]
    exact hm c h1 h2 hp
  ·have hcj:c≠j:=by omega
   rw[g,if_neg h4,if_neg hp,g,if_neg hcj]
   by_cases hci:c=i
   ·subst hci
    rw[if_pos rfl]
    refine h.over ?_ j (by omega) (by omega) (by omega)
    rcases hq with hq | hq
    ·have:c≠i0:=fun e=>hq (e ▸ h3)
     omega
    ·omega
   ·rw[if_neg hci]
    exact h.heap c h1 h2 h3 hp
 ·have e:(j - 1) / 2=i:=by omega
  rw[e,g,if_neg (by omega),if_pos rfl,g,if_neg (by omega),if_neg (by omega)]
  have:=h.heap c h1 h2 (hq2 c (by omega) h1) (by omega)
  rwa[h3]at this
theorem DnG.head{l0 l:List α}(h:DnG d kp Q l0 l n i0 i)(hn:n<=l0.length):(l.take n).Perm (l0.take n):=by
 have e:l.drop n=l0.drop n:=by
  apply zmK d (by simp[h.len])
  intro k _
  have:=h.rest (n+k) (by omega)
  simpa [List.getD,List.getElem?_drop]using this
 have hp:=h.perm
 rw[<- List.take_append_drop n l,<- List.take_append_drop n l0,e]at hp
 exact(List.perm_append_right_iff _).1 hp
structure UpG(l0 l:List α)(n j:Nat):Prop where
 len:l.length=l0.length
 perm:l.Perm l0
 rest:∀k,n<=k->l.getD k d=l0.getD k d
 heap:∀c,0 < c->c < n->c≠j->leG kp (l.getD ((c - 1) / 2) d) (l.getD c d)
 over:0 < j->∀c,0 < c->c < n->(c - 1) / 2=j->leG kp (l.getD ((j - 1) / 2) d) (l.getD c d)
theorem UpG.stop0{l0 l:List α}(h:UpG d kp l0 l n 0):HeQ d kp zmp l n:=fun c h1 h2 _=>h.heap c h1 h2 (by omega)
theorem UpG.stop{l0 l:List α}(h:UpG d kp l0 l n j)(hk:ahG kp (l.getD j d) (l.getD ((j - 1) / 2) d)=false):HeQ d kp zmp l n:=fun c h1 h2 _=>by
 by_cases hc:c=j
 ·subst hc
  have:=mt (z7w (kp (l.getD c d)) (kp (l.getD ((c - 1) / 2) d))).2 (by unfold ahG at hk;rw[hk];simp)
  show leP _ _
  exact Decidable.not_not.1 this
 ·exact h.heap c h1 h2 hc
theorem UpG.step {l0 l:List α} (h:UpG d kp l0 l n j) (h0:0 < j) (hj:j < n) (hl:n<=l.length) (hk:ahG kp (l.getD j d) (l.getD ((j - 1) / 2) d)=true) :
    UpG d kp l0 (gsw d l ((j - 1) / 2) j) n ((j - 1) / 2):=by
 have hle:leG kp (l.getD j d) (l.getD ((j - 1) / 2) d):=zf0 ((z7w _ _).1 hk)
 generalize hi:(j - 1) / 2=i at *
 have g:=zc2 d l (i:=i) (j:=j) (by omega) (by omega)
 refine⟨by rw[zmr,h.len],(zmw d l (by omega) (by omega)).trans h.perm,fun k hk => ?_,fun c h1 h2 h3 => ?_,fun hi0 c h1 h2 h3 => ?_⟩
 ·rw[g,if_neg (by omega),if_neg (by omega)]
  exact h.rest k hk
 ·by_cases hcj:c=j
  ·subst hcj
   rw[hi,g,if_neg (by omega),if_pos rfl,g,if_pos rfl]
   exact hle
  ·rw[g c,if_neg hcj,if_neg h3]
   by_cases hpi:(c - 1) / 2=i
   ·rw[hpi,g,if_neg (by omega),if_pos rfl]
    have:=h.heap c h1 h2 hcj
    rw[hpi]at this
    exact z61 hle this
   ·by_cases hpj:(c - 1) / 2=j
    ·rw[hpj,g,if_pos rfl]
     have:=h.over h0 c h1 h2 hpj
     rwa[hi]at this
    ·rw[g,if_neg hpj,if_neg hpi]
     exact h.heap c h1 h2 hcj
 ·have hii:=h.heap i hi0 (by omega) (by omega)
  rw[g ((i - 1) / 2),if_neg (by omega),if_neg (by omega),g c]
  by_cases hcj:c=j
  ·rw[if_pos hcj];exact hii
  ·rw[if_neg hcj,if_neg (by omega)]
   have:=h.heap c h1 h2 hcj
   rw[h3]at this
   exact z61 hii this
theorem UpG.start{l:List α}(h:∀c,0 < c->c < n->c≠j->leG kp (l.getD ((c - 1) / 2) d) (l.getD c d))(ho:0 < j->∀c,0 < c->c < n->(c - 1) / 2=j->leG kp (l.getD ((j - 1) / 2) d) (l.getD c d)):UpG d kp l l n j :=
 ⟨rfl,List.Perm.refl _,fun _ _=>rfl,h,ho⟩
theorem UpG.push{l:List α}(x:α)(h:HeQ d kp zmp l l.length):UpG d kp (l++[x]) (l++[x]) (l.length+1) l.length:=by
 have e:∀k,k < l.length->(l++[x]).getD k d=l.getD k d:=fun k hk=>by
  show((l++[x])[k]?).getD d=(l[k]?).getD d
  rw[List.getElem?_append_left hk]
 refine UpG.start d kp (fun c h1 h2 h3 => ?_) (fun _ c h1 h2 h3=>by omega)
 rw[e _ (by omega),e c (by omega)]
 exact h c h1 (by omega) trivial
theorem zn2{l:List α}(h:l.length=n+1):l=l.take n++[l.getD n d]:=by
 have e:=List.take_append_drop n l
 have e2:l.drop n=[l.getD n d]:=by
  rw[List.drop_eq_getElem_cons (by omega),List.drop_eq_nil_of_le (by omega)]
  simp[List.getD,show n < l.length by omega]
 rw[e2]at e
 exact e.symm
theorem zmN{l:List α}(h:HeQ d kp zmp l n)(hl:n<=l.length):HeQ d kp zmp (l.take n) (l.take n).length:=by
 rw[List.length_take,Nat.min_eq_left hl]
 exact h.congr d kp (fun k hk=>by simp[List.getD,hk])
end
def zmX(m n:Int):Int:=if m < n then -1 else if n < m then 1 else 0
theorem nanU_any(m:Int)(w:World):Calls Tryz.prog 73 #[.int .u64 m] w fun e w'=>e = .returned (.bool false)/\w'=w:=by
 have h:(m != m)=false:=by simp
 go_enter Tryz.func73,Tryz.ntmps73
 go_wp2
 go_ret
 exact⟨by simp,rfl⟩
theorem cmpU_any(m n:Int)(w:World):Calls Tryz.prog 40 #[.int .u64 m,.int .u64 n] w fun e w'=>e = .returned (.int .i64 (zmX m n))/\w'=w:=by
 unfold zmX
 by_cases h1:m < n
 ·rw[if_pos h1]
  have d1:decide (m < n)=true:=decide_eq_true h1
  go_enter Tryz.func40,Tryz.ntmps40
  go_wp2_with (go_at_call 73;refine(nanU_any _ _).mono ?_;rintro e w1 ⟨rfl,rfl⟩)
  go_ret
  exact⟨rfl,rfl⟩
 rw[if_neg h1]
 have d1:decide (m < n)=false:=decide_eq_false h1
 by_cases h2:n < m
 ·rw[if_pos h2]
  have d2:decide (n < m)=true:=decide_eq_true h2
  clear h1
  go_enter Tryz.func40,Tryz.ntmps40
  go_wp2_with (go_at_call 73;refine(nanU_any _ _).mono ?_;rintro e w1 ⟨rfl,rfl⟩)
  go_ret
  exact⟨rfl,rfl⟩
 rw[if_neg h2]
 have d2:decide (n < m)=false:=decide_eq_false h2
 clear h1 h2
 go_enter Tryz.func40,Tryz.ntmps40
 go_wp2_with (go_at_call 73;refine(nanU_any _ _).mono ?_;rintro e w1 ⟨rfl,rfl⟩)
 go_ret
 exact⟨rfl,rfl⟩
theorem nanI_any(m:Int)(w:World):Calls Tryz.prog 104 #[.int .i64 m] w fun e w'=>e = .returned (.bool false)/\w'=w:=by
 have h:(m != m)=false:=by simp
 go_enter Tryz.func104,Tryz.ntmps104
 go_wp2
 go_ret
 exact⟨by simp,rfl⟩
theorem cmpI_any(m n:Int)(w:World):Calls Tryz.prog 75 #[.int .i64 m,.int .i64 n] w fun e w'=>e = .returned (.int .i64 (zmX m n))/\w'=w:=by
 unfold zmX
 by_cases h1:m < n
 ·rw[if_pos h1]
  have d1:decide (m < n)=true:=decide_eq_true h1
  go_enter Tryz.func75,Tryz.ntmps75
  go_wp2_with (go_at_call 104;refine(nanI_any _ _).mono ?_;rintro e w1 ⟨rfl,rfl⟩)
  go_ret
  exact⟨rfl,rfl⟩
 rw[if_neg h1]
 have d1:decide (m < n)=false:=decide_eq_false h1
 by_cases h2:n < m
 ·rw[if_pos h2]
  have d2:decide (n < m)=true:=decide_eq_true h2
  clear h1
  go_enter Tryz.func75,Tryz.ntmps75
  go_wp2_with (go_at_call 104;refine(nanI_any _ _).mono ?_;rintro e w1 ⟨rfl,rfl⟩)
  go_ret
  exact⟨rfl,rfl⟩
 rw[if_neg h2]
 have d2:decide (n < m)=false:=decide_eq_false h2
 clear h1 h2
 go_enter Tryz.func75,Tryz.ntmps75
 go_wp2_with (go_at_call 104;refine(nanI_any _ _).mono ?_;rintro e w1 ⟨rfl,rfl⟩)
 go_ret
 exact⟨rfl,rfl⟩
theorem zna (g:Nat) (x y r:Int) (hr:r=if x=0 then y else x) (w:World) (h0:w.cell? ⟨g,0,none⟩=some (.int .i64 x)) (h1:w.cell? ⟨g,1,none⟩=some (.int .i64 y)) :
    Calls Tryz.prog 74 #[.slice (some ⟨g,0,none⟩) 2 2] w fun e w'=>e = .returned (.int .i64 r)/\w'=w:=by
 have HR:=zH hr
 clear hr
 go_enter Tryz.func74,Tryz.ntmps74
 go_wp2
 go_loopw [8] (fun ix wr=>(ix = .int .i64 0\/(ix = .int .i64 1/\x=0)\/(ix = .int .i64 2/\x=0/\y=0))/\wr=w) (fun ix _=>2 - (intOf ix).toNat)
 case atStart=>exact⟨.inl rfl,rfl⟩
 case round =>
  obtain⟨rfl | ⟨rfl,rfl⟩ | ⟨rfl,rfl,rfl⟩,rfl⟩:=hrel
  ·by_cases hx:x=0
   ·subst hx
    go_wp2
    go_roundw
    case rel=>simp
    case measure=>simp[intOf]
   ·have d1:(x != 0)=true:=by simp[hx]
    go_wp2
    go_ret
    exact⟨by rw[HR.out,if_neg hx];rfl,rfl⟩
  ·by_cases hy:y=0
   ·subst hy
    go_wp2
    go_roundw
    case rel=>simp
    case measure=>simp[intOf]
   ·have d1:(y != 0)=true:=by simp[hy]
    go_wp2
    go_ret
    exact⟨by rw[HR.out,if_pos trivial];rfl,rfl⟩
  ·go_wp2
   go_ret
   exact⟨by rw[HR.out,if_pos trivial];rfl,rfl⟩
theorem znb (g:Nat) (x y r:Int) (hr:r=if x=0 then y else x) (w:World) (hg:g=w.heap.size) :
    Calls Tryz.prog 74 #[.slice (some ⟨g,0,none⟩) 2 2] (w.alloc (.cells #[.int .i64 x,.int .i64 y] 3)).drew fun e w'=>e = .returned (.int .i64 r)/\w'=(w.alloc (.cells #[.int .i64 x,.int .i64 y] 3)).drew:=by
 subst hg
 have b:=(Blk.new w #[.int .i64 x,.int .i64 y] 3).nb (Below.drew (Below.refl _ _):Nb _ (w.alloc (.cells #[.int .i64 x,.int .i64 y] 3)).drew)
 exact zna _ x y r hr _ (b.cell 0) (b.cell 1)
theorem Blk.sets{t:TypeId}:∀(vs:List Value) (o:Nat) (w:World) (cs:Array Value),Blk w g cs t->∃cs',Blk (w.setCells g o vs) g cs' t/\cs'.size=cs.size/\(∀i,i < vs.length->o+i < cs.size->cs'[o+i]? = vs[i]?)/\∀k,(k < o\/o+vs.length<=k)->cs'[k]? = cs[k]? := by
 intro vs
 induction vs with
 | nil=>intro o w cs h;exact⟨cs,h,rfl,fun i hi=>by simp at hi,fun k _=>rfl⟩
 | cons v vs ih =>
   intro o w cs h
   obtain⟨cs',h1,h2,h3,h4⟩:=ih (o+1) _ _ (h.set o v)
   rw[Array.size_setIfInBounds]at h2 h3
   refine⟨cs',h1,h2,fun i hi ho => ?_,fun k hk => ?_⟩
   ·cases i with
    | zero =>
      rw[h4 (o+0) (by omega),Nat.add_zero,Array.getElem?_setIfInBounds_self_of_lt (by omega)]
      rfl
    | succ i =>
      have:=h3 i (by simpa using hi) (by omega)
      rw[show o+(i+1)=o+1+i by omega,this]
      rfl
   ·rw[List.length_cons]at hk
    rw[h4 k (by omega),Array.getElem?_setIfInBounds_ne (by omega)]
theorem Kp.sets(hg:F g):∀(vs:List Value) (o:Nat) (w:World),Kp F w (w.setCells g o vs):=by
 intro vs
 induction vs with
 | nil=>intro o w;exact Kp.ofNb Nb.rfl
 | cons v vs ih=>intro o w;exact(Kp.set hg).tr (ih (o+1) _) (fun k hk => .inl hk)
def enP(p:Nat × Nat):List Value:=[.int .u64 (p.1:Nat),.int .i64 (p.2:Nat)]
theorem zn7(p:Nat × Nat)(u:Value)(hu:u∈enP p):u.oneCell'=true:=by
 simp[enP]at hu
 rcases hu with rfl | rfl<;>rfl
theorem zc1(p:Nat × Nat):(enP p).length=2:=rfl
def z3o(l:List (Nat × Nat)):List Value:=l.flatMap enP
theorem zA(l:List (Nat × Nat)):(z3o l).length=l.length*2:=by
 induction l with
 | nil=>rfl
 | cons p l ih =>
   show(enP p++z3o l).length=_
   rw[List.length_append,zc1,ih,List.length_cons]
   omega
theorem zc9(l m:List (Nat × Nat)):z3o (l++m)=z3o l++z3o m:=by simp[z3o]
theorem zcb(l:List (Nat × Nat)):∀j,j < l.length->∀i,i < 2->(z3o l)[j*2+i]? = (enP (l.getD j d0))[i]? := by
 induction l with
 | nil=>intro j h;simp at h
 | cons p l ih =>
   intro j h i hi
   have e:z3o (p::l)=enP p++z3o l:=rfl
   rw[e]
   cases j with
   | zero =>
     rw[List.getElem?_append_left (by rw[zc1];omega),Nat.zero_mul,Nat.zero_add]
     rfl
   | succ j =>
     rw[List.getElem?_append_right (by rw[zc1];omega),zc1,show(j+1)*2+i - 2=j*2+i by omega]
     exact ih j (by simpa using h) i hi
theorem zmv(l:List (Nat × Nat))(u:Value)(hu:u∈z3o l):u.oneCell'=true:=by
 obtain⟨p,hp,hm⟩:=List.mem_flatMap.1 hu
 exact zn7 p u hm
theorem zn3:(Tryz.prog.info? 75).map (fun i=>(i.zero,i.size,i.bytes))=some (some (.agg #[.int .u64 0,.int .i64 0]),2,16):=by kernel_rfl
def z8C(w:World)(v:Value)(l:List (Nat × Nat)):Prop:=w.ownsRow 0 75 2 v l.length (z3o l)
theorem z8C.nil(w:World):z8C w (.slice none 0 0) []:=World.ownsRow_nil _ _ _ _
theorem z8C.keep{l:List (Nat × Nat)}(h:z8C w v l)(hk:Kp F w w')(hn:∀g,v.ownBlock=some g->¬F g):z8C w' v l:=by
 obtain⟨h1,h2⟩:=h
 refine⟨h1,?_⟩
 rcases h2 with h2 | ⟨g,cap,cur,rfl,hb,hg,r⟩
 ·exact .inl h2
 ·exact .inr ⟨g,cap,cur,rfl,hb,(hk.block g (Array.getElem?_eq_some_iff.1 hg).1 (hn g rfl)).trans hg,r⟩
theorem z8C.nb{l:List (Nat × Nat)}(h:z8C w v l)(hb:Nb w w'):z8C w' v l:=h.keep (F:=fun _=>False) (Kp.ofNb hb) (by simp)
theorem z8C.lt{w:World}{v:Value}{l:List (Nat × Nat)}(h:z8C w v l){g:Nat}(hg:v.ownBlock=some g):g < w.heap.size:=(World.ownsRow.lt h g hg).2
theorem z8C.shape{l:List (Nat × Nat)}(h:z8C w v l):∃a cap,v = .slice a l.length cap/\(0 < l.length->∃g,a=some ⟨g,0,none⟩)/\l.length<=cap/\cap<=maxLen:=by
 rcases h.2 with ⟨rfl,h2⟩ | ⟨g,cap,cur,rfl,hb,hg,hn,hc,r⟩
 ·exact⟨none,0,by rw[h2],fun h=>by omega,by omega,by simp[maxLen]⟩
 ·exact⟨_,cap,rfl,fun _=>⟨g,rfl⟩,hn,hc⟩
def RwP(w:World)(g cap:Nat)(l:List (Nat × Nat)):Prop:=∃cs,Blk w g cs 75/\cs.size=cap*2/\l.length<=cap/\cap<=maxLen/\∀j,j < l.length->∀i,i < 2->cs[j*2+i]? = (enP (l.getD j d0))[i]?
theorem z8C.rw{l:List (Nat × Nat)}(h:z8C w (.slice (some ⟨g,0,none⟩) n cap) l):n=l.length/\RwP w g cap l:=by
 rcases h.2 with ⟨h0,h2⟩ | ⟨g',cap',cur,hv,hb0,hg,hn,hc,hs,ht⟩
 ·cases h0
 ·simp only[Value.slice.injEq,Option.some.injEq,Addr.mk.injEq,and_true]at hv
  obtain⟨rfl,rfl,rfl⟩:=hv
  refine⟨rfl,cur,hg,hs,hn,hc,fun j hj i hi => ?_⟩
  rw[<- zcb l j hj i hi,<- ht,List.getElem?_take_of_lt (by omega),Array.getElem?_toList]
theorem RwP.own{l:List (Nat × Nat)}(h:RwP w g cap l):z8C w (.slice (some ⟨g,0,none⟩) l.length cap) l:=by
 obtain⟨cs,hb,hs,h1,h2,hc⟩:=h
 refine⟨zA l,.inr ⟨g,cap,cs,rfl,Nat.zero_le _,hb,h1,h2,hs,?_⟩⟩
 apply List.ext_getElem?
 intro k
 by_cases hk:k < l.length*2
 ·rw[List.getElem?_take_of_lt hk,Array.getElem?_toList]
  have e:k=k / 2*2+k%2:=by omega
  rw[e,hc (k / 2) (by omega) (k%2) (by omega),zcb l (k / 2) (by omega) (k%2) (by omega)]
 ·rw[List.getElem?_take_eq_none (by omega),List.getElem?_eq_none (by rw[zA];omega)]
theorem RwP.keep{F:Nat->Prop}{w w':World}{g cap:Nat}{l:List (Nat × Nat)}(h:RwP w g cap l)(hk:Kp F w w')(hn:¬F g):RwP w' g cap l:=by
 obtain⟨cs,hb,h1⟩:=h
 exact⟨cs,hb.keep hk hn,h1⟩
theorem RwP.nb{l:List (Nat × Nat)}(h:RwP w g cap l)(hb:Nb w w'):RwP w' g cap l:=h.keep (F:=fun _=>False) (Kp.ofNb hb) (by simp)
theorem RwP.lt{w:World}{g cap:Nat}{l:List (Nat × Nat)}(h:RwP w g cap l):g < w.heap.size:=by
 obtain⟨cs,hb,_⟩:=h
 exact hb.lt
theorem RwP.cell{w:World}{g cap:Nat}{l:List (Nat × Nat)}(h:RwP w g cap l){j:Nat}(hj:j < l.length){i:Nat}{u:Value}(hu:(enP (l.getD j d0))[i]? = some u):w.cell? ⟨g,j*2+i,none⟩=some u/\w.frozen? ⟨g,j*2+i,none⟩=false:=by
 obtain⟨cs,hb,_,_,_,hc⟩:=h
 have hi:i < 2:=by
  have:=(List.getElem?_eq_some_iff.1 hu).1
  rw[zc1]at this
  exact this
 exact⟨(hb.cell _).trans ((hc j hj i hi).trans hu),hb.frozen _⟩
theorem RwP.put{l:List (Nat × Nat)}(h:RwP w g cap l)(hj:j < l.length)(e:Nat × Nat):RwP (w.setCells g (j*2) (enP e)) g cap (l.set j e):=by
 obtain⟨cs,hb,h1,h2,h3,h4⟩:=h
 obtain⟨cs',b1,b2,b3,b4⟩:=Blk.sets (enP e) (j*2) w cs hb
 rw[zc1]at b3 b4
 refine⟨cs',b1,by rw[b2];exact h1,by rw[List.length_set];exact h2,h3,fun k hk i hi => ?_⟩
 rw[List.length_set]at hk
 by_cases hjk:j=k
 ·subst hjk
  rw[b3 i hi (by omega),show(l.set j e).getD j d0=e by simp[List.getD,hj]]
 ·rw[b4 (k*2+i) (by omega),h4 k hk i hi,show(l.set j e).getD k d0=l.getD k d0 by simp[List.getD,List.getElem?_set_ne hjk]]
theorem RwP.behind{l:List (Nat × Nat)}(h:RwP w g cap l)(hn:n < l.length)(vs:List Value)(hv:vs.length=2):RwP (w.setCells g (n*2) vs) g cap (l.take n):=by
 obtain⟨cs,hb,h1,h2,h3,h4⟩:=h
 obtain⟨cs',b1,b2,b3,b4⟩:=Blk.sets vs (n*2) w cs hb
 rw[hv]at b3 b4
 refine⟨cs',b1,by rw[b2];exact h1,by rw[List.length_take];omega,h3,fun j hj i hi => ?_⟩
 rw[List.length_take]at hj
 rw[b4 (j*2+i) (by omega),show(l.take n).getD j d0=l.getD j d0 by simp[List.getD,show j < n by omega]]
 exact h4 j (by omega) i hi
open Go.RowKit Go.Sort
def zms:Value := .func (.func 42) #[] #[]
structure HeP(w:World)(R:Nat)(v:Value)(l:List (Nat × Nat)):Prop where
 blk:Blk w R #[v,zms] 70
 own:z8C w v l
 ne:v.ownBlock≠some R
theorem HeP.keep{F:Nat->Prop}{w w':World}{R:Nat}{v:Value}{l:List (Nat × Nat)}(h:HeP w R v l)(hk:Kp F w w')(h1:¬F R)(h2:∀g,v.ownBlock=some g->¬F g):HeP w' R v l:=⟨h.blk.keep hk h1,h.own.keep hk h2,h.ne⟩
theorem HeP.nb{w w':World}{R:Nat}{v:Value}{l:List (Nat × Nat)}(h:HeP w R v l)(hk:Nb w w'):HeP w' R v l:=⟨h.blk.nb hk,h.own.nb hk,h.ne⟩
theorem HeP.row{l:List (Nat × Nat)}(h:HeP w R v l)(h0:0 < l.length):∃g cap,v = .slice (some ⟨g,0,none⟩) l.length cap/\RwP w g cap l/\g≠R/\l.length<=cap/\cap<=maxLen:=by
 obtain⟨a,cap,rfl,ha,h1,h2⟩:=h.own.shape
 obtain⟨g,rfl⟩:=ha h0
 have:=h.ne
 simp only[Value.ownBlock,ne_eq,Option.some.injEq]at this
 exact⟨g,cap,rfl,h.own.rw.2,this,h1,h2⟩
theorem zE (R:Nat) (v:Value) (l:List (Nat × Nat)) (w:World) (h:HeP w R v l) :
    Calls Tryz.prog 106 #[.pointer (some ⟨R,0,none⟩)] w fun e w'=>e = .returned (.int .i64 (l.length:Nat))/\w'=w:=by
 have c2:=h.blk.cell 0
 obtain⟨a,cap,rfl,_⟩:=h.own.shape
 simp only[List.getElem?_toArray,List.getElem?_cons_zero,List.getElem?_cons_succ]at c2
 clear h
 go_enter Tryz.func106,Tryz.ntmps106
 go_wp2
 go_ret
 exact⟨rfl,rfl⟩
def zn6(p q:Nat × Nat):Int:=if zmX p.1 q.1=0 then zmX p.2 q.2 else zmX p.1 q.1
theorem zn8(p q:Nat × Nat):decide (zn6 p q < 0)=ahB p q:=by
 unfold zn6 zmX ahB
 rcases Nat.lt_trichotomy p.1 q.1 with h | h | h
 ·have h1:(p.1:Int) < (q.1:Int):=by omega
  simp[h1,h,show ¬p.1=q.1 by omega]
 ·rcases Nat.lt_trichotomy p.2 q.2 with k | k | k
  ·have k1:(p.2:Int) < (q.2:Int):=by omega
   simp[h,k1,k]
  ·simp[h,k]
  ·have k1:(q.2:Int) < (p.2:Int):=by omega
   simp[h,k1,show ¬(p.2:Int) < (q.2:Int) by omega,show ¬p.2 < q.2 by omega]
 ·have h1:(q.1:Int) < (p.1:Int):=by omega
  simp[h1,show ¬(p.1:Int) < (q.1:Int) by omega,show ¬p.1 < q.1 by omega,show ¬p.1=q.1 by omega]
theorem zmS (p q:Nat × Nat) (w:World) :
    Calls Tryz.prog 42 #[.agg (enP p).toArray,.agg (enP q).toArray] w fun e w'=>e = .returned (.int .i64 (zn6 (id p) (id q)))/\∃n os,w'=grow (w.drewN n) os:=by
 obtain⟨xk,xn⟩:=p
 obtain⟨yk,yn⟩:=q
 have C1:=fun w=>cmpU_any (xk:Nat) (yk:Nat) w
 have C2:=fun w=>cmpI_any (xn:Nat) (yn:Nat) w
 unfold zn6
 simp only[enP,id]
 generalize zmX (xk:Int) (yk:Int)=x at C1 ⊢
 generalize zmX (xn:Int) (yn:Int)=y at C2 ⊢
 obtain⟨r,hr⟩:∃r,r=if x=0 then y else x:=⟨_,rfl⟩
 have CO:=zH (fun g w=>znb g x y r hr w)
 rw[<- hr]
 clear hr
 go_enter Tryz.func42,Tryz.ntmps42
 go_wp2_with fail
 go_region_held3 (fun w'=>w'.cell? ⟨w.heap.size,0,none⟩=some (.int .u64 (xk:Int))/\w'.cell? ⟨w.heap.size,1,none⟩=some (.int .i64 (xn:Int))/\w'.cell? ⟨w.heap.size+1,0,none⟩=some (.int .u64 (yk:Int))/\w'.cell? ⟨w.heap.size+1,1,none⟩=some (.int .i64 (yn:Int))) (go_keep) (first | (go_at_call 40;refine(C1 _).mono ?_;rintro e w7 ⟨rfl,rfl⟩) | (go_at_call 75;refine(C2 _).mono ?_;rintro e w7 ⟨rfl,rfl⟩) | (go_at_call 74;refine(CO.out _ _ (by rw[World.size_alloc,World.size_alloc])).mono ?_;rintro e w7 ⟨rfl,rfl⟩))
 go_wp2
 go_ret
 exact⟨rfl,1,_,by rw[alloc_eq_grow,alloc_eq_grow,alloc_eq_grow,grow_grow,grow_grow];rfl⟩
theorem Nb.grow(w:World)(os:Array Obj):Nb w (Go.Sort.grow w os):=⟨Eq.refl _,Eq.refl _,Eq.refl _,by simp,fun k hk=>by simp[Go.Sort.grow,Array.getElem?_append_left hk]⟩
theorem zmL (p q:Nat × Nat) (w:World) :
    Calls Tryz.prog 42 #[.agg (enP p).toArray,.agg (enP q).toArray] w fun e w'=>e = .returned (.int .i64 (zn6 (id p) (id q)))/\Nb w w' :=
 (zmS p q w).mono fun e w' ⟨h,n,os,hw⟩=>⟨h,by rw[hw];exact(Nb.drewN w n).tr (Nb.grow _ os)⟩
theorem RwP.at {l:List (Nat × Nat)} (h:RwP w g cap l) (hj:j < l.length) {xk xn:Nat} (hp:l.getD j d0=⟨xk,xn⟩) :
    (w.cell? ⟨g,j*2,none⟩=some (.int .u64 ((xk:Nat):Int))/\w.cell? ⟨g,j*2+1,none⟩=some (.int .i64 ((xn:Nat):Int)))/\(w.frozen? ⟨g,j*2,none⟩=false/\w.frozen? ⟨g,j*2+1,none⟩=false):=by
 have hc:=fun i u (hu:(enP ⟨xk,xn⟩)[i]? = some u)=>h.cell hj (i:=i) (u:=u) (by rw[hp];exact hu)
 exact⟨⟨(hc 0 _ rfl).1,(hc 1 _ rfl).1⟩,(hc 0 _ rfl).2,(hc 1 _ rfl).2⟩
theorem zmZ (R g cap n i j:Nat) (xk xn yk yn:Int) (w:World)
    (hR:w.cell? ⟨R,0,none⟩=some (.slice (some ⟨g,0,none⟩) n cap)) (hne:¬R=g) (hi:i < n) (hj:j < n) (hn:n<=1000) (hij:¬i=j)
    (ci0:w.cell? ⟨g,i*2,none⟩=some (.int .u64 xk)) (fi0:w.frozen? ⟨g,i*2,none⟩=false)
    (ci1:w.cell? ⟨g,i*2+1,none⟩=some (.int .i64 xn)) (fi1:w.frozen? ⟨g,i*2+1,none⟩=false)
    (cj0:w.cell? ⟨g,j*2,none⟩=some (.int .u64 yk)) (fj0:w.frozen? ⟨g,j*2,none⟩=false)
    (cj1:w.cell? ⟨g,j*2+1,none⟩=some (.int .i64 yn)) (fj1:w.frozen? ⟨g,j*2+1,none⟩=false) :
    Calls Tryz.prog 288 #[.pointer (some ⟨R,0,none⟩),.int .i64 (i:Nat),.int .i64 (j:Nat)] w fun e w'=>e = .returned (.tuple #[])/\w'=((w.setCells g (i*2) [(.int .u64 yk),(.int .i64 yn)]).setCells g (j*2) [(.int .u64 xk),(.int .i64 xn)]).drew:=by
 have i1:(i:Int) < (n:Int):=by omega
 have j1:(j:Int) < (n:Int):=by omega
 have p1:¬i*2=j*2+1:=by omega
 have q1:¬i*2+1=j*2:=by omega
 have r1:¬j*2=i*2+1:=by omega
 have s1:¬j*2+1=i*2:=by omega
 have p0:¬i*2=j*2:=by omega
 have q0:¬j*2=i*2:=by omega
 have hji:¬j=i:=fun h=>hij h.symm
 clear hi hj
 go_enter Tryz.func288,Tryz.ntmps288
 go_wp2_with fail
 go_region
 go_end0
 exact⟨rfl,rfl⟩
theorem zmY (R g cap n i:Nat) (xk xn:Int) (w:World)
    (hR:w.cell? ⟨R,0,none⟩=some (.slice (some ⟨g,0,none⟩) n cap)) (hne:¬R=g) (hi:i < n) (hn:n<=1000)
    (ci0:w.cell? ⟨g,i*2,none⟩=some (.int .u64 xk)) (fi0:w.frozen? ⟨g,i*2,none⟩=false)
    (ci1:w.cell? ⟨g,i*2+1,none⟩=some (.int .i64 xn)) (fi1:w.frozen? ⟨g,i*2+1,none⟩=false)
 :
    Calls Tryz.prog 288 #[.pointer (some ⟨R,0,none⟩),.int .i64 (i:Nat),.int .i64 (i:Nat)] w fun e w'=>e = .returned (.tuple #[])/\w'=((w.setCells g (i*2) [(.int .u64 xk),(.int .i64 xn)]).setCells g (i*2) [(.int .u64 xk),(.int .i64 xn)]).drew:=by
  have i1:(i:Int) < (n:Int):=by omega
  clear hi
  go_enter Tryz.func288,Tryz.ntmps288
  go_wp2_with fail
  go_region
  go_end0
  exact⟨rfl,rfl⟩
theorem zmt (R:Nat) (v:Value) (l:List (Nat × Nat)) (w:World) (h:HeP w R v l) (i j:Nat) (hi:i < l.length) (hj:j < l.length) (hl:l.length<=1000) :
    Calls Tryz.prog 285 #[.pointer (some ⟨R,0,none⟩),.int .i64 (i:Nat),.int .i64 (j:Nat)] w fun e w'=>e = .returned (.bool (ahG id (l.getD i d0) (l.getD j d0)))/\Nb w w':=by
 obtain⟨g,cap,rfl,hr,hgR,_,_⟩:=h.row (by omega)
 have c2:=h.blk.cell 0
 have c3:=h.blk.cell 1
 simp only[List.getElem?_toArray,List.getElem?_cons_zero,List.getElem?_cons_succ,zms]at c2 c3
 obtain⟨p,hp⟩:∃q,l.getD i d0=q:=⟨_,rfl⟩
 obtain⟨q,hq⟩:∃q,l.getD j d0=q:=⟨_,rfl⟩
 rw[hp,hq]
 have hc:=zH (fun w=>zmL p q w)
 have hg:decide (zn6 (id p) (id q) < 0)=ahG id p q:=zn8 _ _
 generalize ahG id p q=b at hg ⊢
 generalize zn6 (id p) (id q)=r at hc hg
 obtain⟨xk,xn⟩:=p
 obtain⟨yk,yn⟩:=q
 have HI:=zH (fun w' (n:Nb w w')=>((hr.nb n).at hi hp).1)
 have HJ:=zH (fun w' (n:Nb w w')=>((hr.nb n).at hj hq).1)
 have HR:=zH (fun w' (n:Nb w w')=>(show w'.cell? ⟨R,0,none⟩=_ from((h.blk.nb n).cell 0):w'.cell? ⟨R,0,none⟩=some (.slice (some ⟨g,0,none⟩) l.length cap)))
 have HC:=zH (fun w' (n:Nb w w')=>(show w'.cell? ⟨R,1,none⟩=_ from((h.blk.nb n).cell 1):w'.cell? ⟨R,1,none⟩=some (.func (.func 42) #[] #[])))
 obtain⟨a0,a1⟩:=HI.out _ Nb.rfl
 obtain⟨b0,b1⟩:=HJ.out _ Nb.rfl
 have i1:(i:Int) < (l.length:Int):=by omega
 have j1:(j:Int) < (l.length:Int):=by omega
 clear hi hj hp hq h hr
 simp only[enP]at hc
 generalize l.length=n at *
 go_enter Tryz.func285,Tryz.ntmps285
 go_wp2_with fail
 go_region_held3 (fun w'=>w'.cell? ⟨R,0,none⟩=some (.slice (some ⟨g,0,none⟩) n cap)/\w'.cell? ⟨R,1,none⟩=some (.func (.func 42) #[] #[])/\(w'.cell? ⟨g,i*2,none⟩=some (.int .u64 ((xk:Nat):Int))/\w'.cell? ⟨g,i*2+1,none⟩=some (.int .i64 ((xn:Nat):Int)))/\(w'.cell? ⟨g,j*2,none⟩=some (.int .u64 ((yk:Nat):Int))/\w'.cell? ⟨g,j*2+1,none⟩=some (.int .i64 ((yn:Nat):Int)))) (first | go_keep | exact⟨HR.out _ (Nb.tr (Below.drew (Below.refl _ _):Nb w w.drew) n7),HC.out _ (Nb.tr (Below.drew (Below.refl _ _):Nb w w.drew) n7),HI.out _ (Nb.tr (Below.drew (Below.refl _ _):Nb w w.drew) n7),HJ.out _ (Nb.tr (Below.drew (Below.refl _ _):Nb w w.drew) n7)⟩) ((go_at_call 42;refine(hc.out _).mono ?_;rintro e w7 ⟨rfl,n7⟩))
 have N7:=zH (Nb.tr (Below.drew (Below.refl _ _):Nb w w.drew) n7)
 clear n7
 go_wp2
 go_ret
 exact⟨rfl,N7.out⟩
theorem z4J (R:Nat) (v:Value) (l:List (Nat × Nat)) (w:World) (h:HeP w R v l) (i j:Nat) (hi:i < l.length) (hj:j < l.length) (hl:l.length<=1000) :
    Calls Tryz.prog 288 #[.pointer (some ⟨R,0,none⟩),.int .i64 (i:Nat),.int .i64 (j:Nat)] w fun e w'=>e = .returned (.tuple #[])/\HeP w' R v (gsw d0 l i j)/\Kp (fun k=>v.ownBlock=some k) w w':=by
 obtain⟨g,cap,rfl,hr,hgR,hn1,hn2⟩:=h.row (by omega)
 have c2:=h.blk.cell 0
 simp only[List.getElem?_toArray,List.getElem?_cons_zero,List.getElem?_cons_succ]at c2
 have hgR':¬R=g:=fun e=>hgR e.symm
 have put:HeP (((w.setCells g (i*2) (enP (l.getD j d0))).setCells g (j*2) (enP (l.getD i d0))).drew) R (.slice (some ⟨g,0,none⟩) l.length cap) (gsw d0 l i j)/\Kp (fun k=>Value.ownBlock (.slice (some ⟨g,0,none⟩) l.length cap)=some k) w (((w.setCells g (i*2) (enP (l.getD j d0))).setCells g (j*2) (enP (l.getD i d0))).drew):=by
  have k1:Kp (fun k=>k=g) w (((w.setCells g (i*2) (enP (l.getD j d0))).setCells g (j*2) (enP (l.getD i d0))).drew):=((Kp.sets (F:=fun k=>k=g) rfl _ _ _).tr (Kp.sets (F:=fun k=>k=g) rfl _ _ _) (fun _ h => .inl h)).tr (Kp.ofNb (F:=fun _=>False) (Below.drew (Below.refl _ _))) (fun _ h=>h.elim)
  have r2:RwP (((w.setCells g (i*2) (enP (l.getD j d0))).setCells g (j*2) (enP (l.getD i d0))).drew) g cap (gsw d0 l i j):=((hr.put hi (l.getD j d0)).put (by rw[List.length_set];exact hj) (l.getD i d0)).nb (Below.drew (Below.refl _ _))
  have o2:=r2.own
  rw[zmr]at o2
  exact⟨⟨h.blk.keep k1 hgR',o2,h.ne⟩,k1.mono fun k _ e=>by subst e;rfl⟩
 obtain⟨p,hp⟩:∃q,l.getD i d0=q:=⟨_,rfl⟩
 obtain⟨q,hq⟩:∃q,l.getD j d0=q:=⟨_,rfl⟩
 by_cases hij:i=j
 ·subst hij
  rw[hp]at put
  obtain⟨xk,xn⟩:=p
  obtain⟨⟨ma0,ma1⟩,mb0,mb1⟩:=hr.at hi hp
  exact(zmY R g cap l.length i _ _ w c2 hgR' hi hl ma0 mb0 ma1 mb1).mono fun e w' ⟨h1,h2⟩=>by
   rw[h2]
   exact⟨h1,put⟩
 ·rw[hp,hq]at put
  obtain⟨xk,xn⟩:=p
  obtain⟨yk,yn⟩:=q
  obtain⟨⟨ma0,ma1⟩,mb0,mb1⟩:=hr.at hi hp
  obtain⟨⟨mc0,mc1⟩,md0,md1⟩:=hr.at hj hq
  exact(zmZ R g cap l.length i j _ _ _ _ w c2 hgR' hi hj hl hij ma0 mb0 ma1 mb1 mc0 md0 mc1 md1).mono fun e w' ⟨h1,h2⟩=>by
   rw[h2]
   exact⟨h1,put⟩
theorem zmO (w:World) {ops:Array Oper} {o:Oper} {a:Act} {K:Act->World->Prop} {Q:Exit->Act->World->Prop} {E:Prop}
    (hg:o.guard=none) (s x:Operand) (hop:o.op=Op.call { callee:=Callee.builtin Builtin.append,args:=#[s,x],argTypes:=#[65,65] })
    (v:Value) (l:List (Nat × Nat)) (hs:a.eval s=v) (hown:z8C w v l)
    (b:Nat) (e:Nat × Nat) (hx:a.eval x = .slice (some ⟨b,0,none⟩) 1 1) (hc:∀j u,(enP e)[j]? = some u->w.cell? ⟨b,j,none⟩=some u) (b1:l.length+1<=1000000)
    (hK:∀v' w',z8C w' v' (l++[e])->Kp (fun k=>v.ownBlock=some k) w w'->(∀g,v'.ownBlock=some g->v.ownBlock=some g\/w.heap.size<=g)->K (a.put o.dst v') w') :
    if Region.wanted o (yielded ops a.tmps)=true then Oper.wp Tryz.prog o a w K Q else E:=by
 obtain⟨i0,hi,hz0,hz1,hz2⟩:=info_parts zn3
 have hw:Region.wanted o (yielded ops a.tmps)=true:=by simp[Region.wanted,hg]
 have hlen:=zA [e]
 have h1c:=fun u hu=>zmv [e] u hu
 have hc':∀j u,(z3o [e])[j]? = some u->w.cell? ((⟨b,0,none⟩:Addr).add j)=some u:=fun j u hu=>by
  rw[Addr.add_lit,Nat.zero_add]
  exact hc j u (by simpa [z3o]using hu)
 have hall:∀v' w',w'.ownsRow 0 75 2 v' (l.length+1) (z3o l++z3o [e])->w.grownBy w' v.ownBlock->(∀g,v'.ownBlock=some g->v.ownBlock=some g\/w.heap.size<=g)->K (a.put o.dst v') w':=fun v' w' ho hgr hbl =>
  hK v' w' (by simpa [z8C,zc9]using ho) (Kp.grown hgr (fun k hk=>hk)) hbl
 have hnew:∀v' w',w'.ownsRow w.heap.size 75 2 v' (l.length+1) (z3o l++z3o [e])->w.grownBy w' none->K (a.put o.dst v') w':=fun v' w' ho hgr =>
  hall v' w' (z20 ho) ⟨hgr.os,hgr.tape,hgr.output,hgr.size,fun k hk _=>hgr.block k hk (by simp)⟩ (fun g hg => .inr (ho.lt g hg).1)
 rcases hown.2 with ⟨rfl,h2⟩ | ⟨g,cap,cur,rfl,hbg,hgg,hnc,hcm,hcs,htake⟩
 ·have hl:l=[]:=List.length_eq_zero_iff.1 h2
  subst hl
  rw[if_pos hw]
  obtain⟨v',w',hrun,r1,r2,_⟩:=run_append_own (P:=Tryz.prog) w w.heap.size 65 o.type 75 i0 _ 2 16 Tryz.underlying65 hi hz0 hz1 hz2 rfl (by decide) (.slice none 0 0) 0 [] (World.ownsRow_nil w _ _ _) ⟨b,0,none⟩ 1 1 (z3o [e]) hlen hc' h1c (by unfold maxLen;omega) (by omega) (Nat.le_refl _)
  unfold Oper.wp
  simp[execOp,hop,resolve,invoke,builtin,hs,hx,hrun,Result.andThen]
  exact hnew v' w' (by simpa [show z3o []=[]from rfl]using r1) r2
 ·by_cases hroom:l.length+1<=cap
  ·rw[if_pos hw]
   obtain⟨w',hrun,r1,r2⟩:=run_append_fits (P:=Tryz.prog) w 0 65 o.type 75 i0 2 Tryz.underlying65 hi hz1 g l.length cap _ hown ⟨b,0,none⟩ 1 1 _ hlen hc' h1c hroom
   unfold Oper.wp
   simp[execOp,hop,resolve,invoke,builtin,hs,hx,hrun,Result.andThen]
   exact hall _ _ r1 r2 (fun k hk => .inl (by simpa [Value.ownBlock]using hk))
  ·exact step_append_grows hg s x 65 hop 75 i0 _ 2 16 Tryz.underlying65 hi hz0 hz1 hz2 rfl (by decide) (some ⟨g,0,none⟩) l.length cap _ hs (by simp) hown.1 (fun b hb=>by cases hb;exact hown.cells (g:=g) rfl) ⟨b,0,none⟩ 1 1 _ hx hlen hc' h1c (by omega) (by unfold maxLen;omega) (by omega) hnew
theorem zmT (R:Nat) (v:Value) (l:List (Nat × Nat)) (n:Nat) (w:World) (h:HeP w R v l) (hn:l.length=n+1) (hl:l.length<=1000) :
    Calls Tryz.prog 286 #[.pointer (some ⟨R,0,none⟩)] w fun e w'=>e = .returned (.iface 75 (.agg (enP (l.getD n d0)).toArray))/\∃v',HeP w' R v' (l.take n)/\v'.ownBlock=v.ownBlock/\Kp (fun k=>k=R\/v.ownBlock=some k) w w':=by
 obtain⟨g,cap,rfl,hr,hgR,hn1,hn2⟩:=h.row (by omega)
 have c2:=h.blk.cell 0
 have f2:=h.blk.frozen 0
 have hR:=h.blk.lt
 have hgl:=hr.lt
 simp only[List.getElem?_toArray,List.getElem?_cons_zero,List.getElem?_cons_succ]at c2
 have hgR':¬R=g:=fun e=>hgR e.symm
 obtain⟨p,hp⟩:∃q,l.getD n d0=q:=⟨_,rfl⟩
 rw[hp]
 obtain⟨xk,xn⟩:=p
 obtain⟨⟨a0,a1⟩,b0,b1⟩:=hr.at (by omega) hp
 have HP:=zH (show ∀w3,Nb ((w.setCells g (n*2) [.int .u64 0,.int .i64 0]).setCell ⟨R,0,none⟩ (.slice (some ⟨g,0,none⟩) n cap)) w3->HeP w3 R (.slice (some ⟨g,0,none⟩) n cap) (l.take n)/\Kp (fun k=>k=R\/Value.ownBlock (.slice (some ⟨g,0,none⟩) l.length cap)=some k) w w3 from fun w3 n3=>by
  have k1:Kp (fun k=>k=g) w (w.setCells g (n*2) [.int .u64 0,.int .i64 0]):=Kp.sets (F:=fun k=>k=g) rfl _ _ _
  have r1:=hr.behind (n:=n) (by omega) [.int .u64 0,.int .i64 0] rfl
  have r2:=(r1.keep (Kp.set (F:=fun k=>k=R) (p:=⟨R,0,none⟩) (u := .slice (some ⟨g,0,none⟩) n cap) rfl) hgR).nb n3
  have b2:=((h.blk.keep k1 hgR').set 0 (.slice (some ⟨g,0,none⟩) n cap)).nb n3
  have o2:=r2.own
  rw[show(l.take n).length=n by rw[List.length_take];omega]at o2
  refine⟨⟨by simpa using b2,o2,h.ne⟩,?_⟩
  refine(((k1.mono fun k _ e => .inr (by subst e;rfl)).tr (Kp.set (F:=fun k=>k=R) (p:=⟨R,0,none⟩) rfl) (fun k e => .inl (.inl e))).tr (Kp.ofNb (F:=fun _=>False) n3) (fun _ e=>e.elim)))
 unfold maxLen at hn2
 clear h hr hp
 rw[hn]at c2 hl hn1
 simp only[enP]
 clear hn
 go_enter Tryz.func286,Tryz.ntmps286
 go_wp2_with fail
 go_region
 go_wp2
 go_ret
 exact⟨rfl,_,(HP.out _ (((Nb.rfl.al _).al _).tr (Below.drew (Below.refl _ _)))).1,rfl,(HP.out _ (((Nb.rfl.al _).al _).tr (Below.drew (Below.refl _ _)))).2⟩
theorem zmP (R:Nat) (v:Value) (l:List (Nat × Nat)) (p:Nat × Nat) (w:World) (h:HeP w R v l) (hl:l.length+1<=1000) :
    Calls Tryz.prog 287 #[.pointer (some ⟨R,0,none⟩),.iface 75 (.agg (enP p).toArray)] w fun e w'=>e = .returned (.tuple #[])/\∃v',HeP w' R v' (l++[p])/\(∀g,v'.ownBlock=some g->v.ownBlock=some g\/w.heap.size<=g)/\Kp (fun k=>k=R\/v.ownBlock=some k) w w':=by
 obtain⟨a,cap,rfl,_,hn1,hn2⟩:=h.own.shape
 have c2:=h.blk.cell 0
 have f2:=h.blk.frozen 0
 have hR:=h.blk.lt
 simp only[List.getElem?_toArray,List.getElem?_cons_zero,List.getElem?_cons_succ]at c2
 obtain⟨u,hu⟩:∃u,u=(enP p).toArray:=⟨_,rfl⟩
 have CE:=zH (show ∀w':World,Nb (w.alloc (.cells u 75)) w'->∀j x,(enP p)[j]? = some x->w'.cell? ⟨w.heap.size,j,none⟩=some x from fun w' n j x hx=>by
  have b:=(Blk.new w u 75).nb n
  rw[b.cell j,hu]
  simpa using hx)
 have OW:=zH (fun w' (n:Nb w w')=>h.own.nb n)
 have HB:=zH h.blk
 have NE:=zH h.ne
 rw[<- hu]
 obtain⟨xk,xn⟩:=p
 simp only[enP]at hu
 subst hu
 clear h
 have rT:∀w,(Instr.typeAssert (.iface 75 (.agg #[(.int .u64 ((xk:Nat):Int)),(.int .i64 ((xn:Nat):Int))])) 20 75 false).run Tryz.prog w = .ok (.agg #[(.int .u64 ((xk:Nat):Int)),(.int .i64 ((xn:Nat):Int))]) w:=fun _=>by kernel_rfl
 go_enter Tryz.func287,Tryz.ntmps287
 go_wp2_with fail
 go_region_law (refine zmO _ rfl (.tmp 8) (.tmp 11) rfl (.slice a l.length cap) l (by simp[Act.eval,Act.put]) (OW.out _ ((Nb.rfl.al _).tr (Below.drew (Below.refl _ _)))) w.heap.size ⟨xk,xn⟩ (by simp[Act.eval,Act.put]) (CE.out _ (Below.drew (Below.refl _ _))) (by omega) ?_
                intro v7 w7 ho hk7 hg7
                have k7:=zH (show Kp (fun k=>Value.ownBlock (.slice a l.length cap)=some k) w w7 from(Kp.ofNb ((Nb.rfl.al _).tr (Below.drew (Below.refl _ _)))).tr hk7 (fun k e => .inl e))
                have g7:=zH (show ∀g,v7.ownBlock=some g->Value.ownBlock (.slice a l.length cap)=some g\/w.heap.size<=g from fun g e=>(hg7 g e).imp id (fun q=>Nat.le_trans ((Nb.rfl.al _).tr (Below.drew (Below.refl _ _)):Nb w _).size q))
                have b7:=HB.out.keep k7.out NE.out
                have B7:=zH b7
                obtain⟨L7,hL7⟩:∃X,X=l++[(⟨xk,xn⟩:Nat × Nat)]:=⟨_,rfl⟩
                rw[<- hL7]at ho
                have O7:=zH ho
                have HL7:=zH hL7
                obtain⟨a7,c7,rfl,_⟩:=ho.shape
                clear hL7
                have hR7:=b7.lt
                have e2:w7.cell? ⟨R,0,none⟩=some (.slice a l.length cap):=b7.cell 0
                have d2:w7.frozen? ⟨R,0,none⟩=false:=b7.frozen 0
                clear ho hk7 hg7 b7)
 all_goals
  have ne7:Value.ownBlock (.slice a7 L7.length c7)≠some R:=fun e=>(g7.out R e).elim NE.out (fun q=>by omega)
  have b8:=B7.out.set 0 (.slice a7 L7.length c7)
  have k8:Kp (fun k=>k=R) w7 (w7.setCell ⟨R,0,none⟩ (.slice a7 L7.length c7)):=Kp.set (F:=fun k=>k=R) rfl
  have o8:=O7.out.keep k8 (fun g hg e=>ne7 (by rw[hg,e]))
  have B8:=zH b8
  have O8:=zH o8
  have N7:=zH ne7
  have K8:=zH ((k7.out.mono (F':=fun k=>k=R\/Value.ownBlock (.slice a l.length cap)=some k) (fun _ _ h => .inr h)).tr k8 (fun _ h => .inl (.inl h)))
  clear b8 k8 o8 ne7
  go_wp2
  go_end0
  exact⟨rfl,_,⟨by simpa using B8.out,by rw[<- HL7.out];exact O8.out,N7.out⟩,g7.out,K8.out⟩
theorem zmu (R : Nat) (w : World) : (method 398 107 (.pointer (some ⟨R, 0, none⟩)) "Less").run Tryz.prog w = .ok (285, .pointer (some ⟨R, 0, none⟩)) w := by kernel_rfl
theorem zmA:∀args w,(callFunc 285 args).run Tryz.prog w = .ok (.enter 285 args) w:=hcf _ _ Tryz.func285 (by kernel_rfl) (by kernel_rfl)
theorem zK (R : Nat) (w : World) : (method 398 107 (.pointer (some ⟨R, 0, none⟩)) "Swap").run Tryz.prog w = .ok (288, .pointer (some ⟨R, 0, none⟩)) w := by kernel_rfl
theorem zmq:∀args w,(callFunc 288 args).run Tryz.prog w = .ok (.enter 288 args) w:=hcf _ _ Tryz.func288 (by kernel_rfl) (by kernel_rfl)
theorem zmB (R : Nat) (w : World) : (method 398 107 (.pointer (some ⟨R, 0, none⟩)) "Len").run Tryz.prog w = .ok (106, .pointer (some ⟨R, 0, none⟩)) w := by kernel_rfl
theorem zmJ:∀args w,(callFunc 106 args).run Tryz.prog w = .ok (.enter 106 args) w:=hcf _ _ Tryz.func106 (by kernel_rfl) (by kernel_rfl)
theorem zmV (R : Nat) (w : World) : (method 398 107 (.pointer (some ⟨R, 0, none⟩)) "Pop").run Tryz.prog w = .ok (286, .pointer (some ⟨R, 0, none⟩)) w := by kernel_rfl
theorem zn0:∀args w,(callFunc 286 args).run Tryz.prog w = .ok (.enter 286 args) w:=hcf _ _ Tryz.func286 (by kernel_rfl) (by kernel_rfl)
theorem zmQ (R : Nat) (w : World) : (method 398 107 (.pointer (some ⟨R, 0, none⟩)) "Push").run Tryz.prog w = .ok (287, .pointer (some ⟨R, 0, none⟩)) w := by kernel_rfl
theorem zmW:∀args w,(callFunc 287 args).run Tryz.prog w = .ok (.enter 287 args) w:=hcf _ _ Tryz.func287 (by kernel_rfl) (by kernel_rfl)
def zn5(w w':World)(R:Nat)(v:Value)(Q:Nat->Prop)(l0:List (Nat × Nat))(n i0:Nat)(b:Bool):Prop :=
 ∃l' i,HeP w' R v l'/\DnG d0 id Q l0 l' n i0 i/\(l'.take n).Perm (l0.take n)/\HeQ d0 id Q l' n/\(b=decide (i0 < i))/\Kp (fun k=>v.ownBlock=some k) w w'
theorem zn5.of{l0 l:List (Nat × Nat)}(hp:HeP w' R v l)(h:DnG d0 id Q l0 l n i0 i)(hk:Kp (fun k=>v.ownBlock=some k) w w')(hn:n<=l0.length)(hh:HeQ d0 id Q l n):zn5 w w' R v Q l0 n i0 (decide (i0 < i)) :=
 ⟨l,i,hp,h,h.head d0 id hn,hh,rfl,hk⟩
theorem zmR (R:Nat) (v:Value) (Q:Nat->Prop) (l0:List (Nat × Nat)) (n i0:Nat) (w:World) (h:HeP w R v l0) (hn:n<=l0.length) (hl:l0.length<=1000) (hi0:i0<=1000) (hq:¬Q i0\/i0=0) (hq2:∀c,i0<=(c - 1) / 2->0 < c->Q c)
    (hh:∀c,0 < c->c < n->Q c->(c - 1) / 2≠i0->leG id (l0.getD ((c - 1) / 2) d0) (l0.getD c d0)) :
    Calls Tryz.prog 78 #[.iface 107 (.pointer (some ⟨R,0,none⟩)),.int .i64 (i0:Nat),.int .i64 (n:Nat)] w fun e w'=>∃b,e = .returned (.bool b)/\zn5 w w' R v Q l0 n i0 b:=by
 have H:=zH h
 have HN:=zH hn
 have HS:=zH (DnG.start d0 id hh)
 have HQ:=zH (show(¬Q i0\/i0=0)/\∀c,i0<=(c - 1) / 2->0 < c->Q c from⟨hq,hq2⟩)
 have n1:n<=1000:=by omega
 have mL:=zmu R
 have mS:=zK R
 have cL:=zmA
 have cS:=zmq
 clear h hh hn hq hq2
 go_enter Tryz.func78,Tryz.ntmps78
 go_wp2
 go_loopw [7] (fun u wr=>∃(i:Nat) (l:List (Nat × Nat)),u = .int .i64 i/\i<=1000/\i0<=i/\DnG d0 id Q l0 l n i0 i/\HeP wr R v l/\Kp (fun k=>v.ownBlock=some k) w wr) (fun u _=>n - (intOf u).toNat)
 case atStart=>exact⟨i0,l0,rfl,hi0,Nat.le_refl _,HS.out,H.out,Kp.rfl⟩
 case round =>
  obtain⟨i,l,rfl,hi,hii,hd,hp,hk⟩:=hrel
  have hlen:l.length<=1000:=by rw[hd.len];exact hl
  have hnl:n<=l.length:=by rw[hd.len];exact HN.out
  have HL:=zH (fun(w':World) (nb:Nb wr w') (j k:Nat) (hj:j < l.length) (hk:k < l.length)=>zmt R v l w' (hp.nb nb) j k hj hk hlen)
  have HW:=zH (fun(w':World) (nb:Nb wr w') (j k:Nat) (hj:j < l.length) (hk:k < l.length)=>z4J R v l w' (hp.nb nb) j k hj hk hlen)
  have HP:=zH hp
  have HD:=zH hd
  have HK:=zH hk
  have HSt:=zH (fun(h:2*i+1 < n) (hk:ahG id (l.getD (zmC d0 id l n i) d0) (l.getD i d0)=true)=>hd.step d0 id HQ.out.1 HQ.out.2 h hnl hk)
  clear hd hp hk
  by_cases h1:n<=2*i+1
  ·have hF:=zH (HD.out.stop1 d0 id h1)
   have d1:decide ((n:Int)<=2*(i:Int)+1)=true:=decide_eq_true (by omega)
   clear hlen hnl
   go_wp2
   go_ret
   exact⟨_,rfl,zn5.of HP.out HD.out HK.out HN.out hF.out⟩
  have h1':2*i+1 < n:=by omega
  have d1:decide ((n:Int)<=2*(i:Int)+1)=false:=decide_eq_false (by omega)
  have d2:decide (2*(i:Int)+1 < 0)=false:=decide_eq_false (by omega)
  clear h1
  have E2:=zH (show((2*i+2:Nat):Int)=2*(i:Int)+1+1 by omega)
  have E1:=zH (show((2*i+1:Nat):Int)=2*(i:Int)+1 by omega)
  by_cases h2:2*i+2 < n/\ahG id (l.getD (2*i+2) d0) (l.getD (2*i+1) d0)=true
  ·have hk2:zmC d0 id l n i=2*i+2:=by unfold zmC;rw[if_pos h2]
   have L1:=zH (fun w' nb=>by have:=HL.out w' nb (2*i+2) (2*i+1) (by omega) (by omega);rw[h2.2,E1.out,E2.out]at this;exact this)
   have d3:decide (2*(i:Int)+1+1 < (n:Int))=true:=decide_eq_true (by omega)
   cases hb:ahG id (l.getD (2*i+2) d0) (l.getD i d0) with
   | false =>
     have hF:=zH (HD.out.stop2 d0 id (by rw[hk2];exact hb))
     have L2:=zH (fun w' nb=>by have:=HL.out w' nb (2*i+2) i (by omega) (by omega);rw[hb,E2.out]at this;exact this)
     clear hlen hnl h2 hk2 hb HL HW HSt
     go_wp2_with fail
     refine(L1.out _ Nb.rfl).mono ?_
     rintro e w1 ⟨rfl,n1'⟩
     have N1:=zH (n1')
     clear n1'
     go_wp2_with fail
     refine(L2.out _ N1.out).mono ?_
     rintro e w2 ⟨rfl,n2'⟩
     have N2:=zH (N1.out.tr n2')
     clear n2'
     go_wp2
     go_ret
     exact⟨_,rfl,zn5.of (HP.out.nb N2.out) HD.out (HK.out.tr (Kp.ofNb (F:=fun _=>False) N2.out) (fun _ h=>h.elim)) HN.out hF.out⟩
   | true =>
     have hD:=zH (HSt.out h1' (by rw[hk2];exact hb))
     have L2:=zH (fun w' nb=>by have:=HL.out w' nb (2*i+2) i (by omega) (by omega);rw[hb,E2.out]at this;exact this)
     have W2:=zH (fun w' nb=>by have:=HW.out w' nb i (2*i+2) (by omega) (by omega);rw[E2.out]at this;exact this)
     have HK2:=zH hk2
     have i2:2*i+2 < n:=h2.1
     clear hlen hnl h2 hk2 hb HL HW HSt
     go_wp2_with fail
     refine(L1.out _ Nb.rfl).mono ?_
     rintro e w1 ⟨rfl,n1'⟩
     have N1:=zH (n1')
     clear n1'
     go_wp2_with fail
     refine(L2.out _ N1.out).mono ?_
     rintro e w2 ⟨rfl,n2'⟩
     have N2:=zH (N1.out.tr n2')
     clear n2'
     go_wp2_with fail
     refine(W2.out _ N2.out).mono ?_
     rintro e w3 ⟨rfl,p3,k3⟩
     have P3:=zH p3
     have K3:=zH ((HK.out.tr (Kp.ofNb (F:=fun _=>False) N2.out) (fun _ h=>h.elim)).tr k3 (fun _ h => .inl h))
     clear p3 k3
     go_wp2
     go_roundw
     case rel=>exact⟨2*i+2,gsw d0 l i (2*i+2),by rw[E2.out],by omega,by omega,by rw[<- HK2.out];exact hD.out,P3.out,K3.out⟩
     case measure=>simp[intOf];omega
  ·have hk2:zmC d0 id l n i=2*i+1:=by unfold zmC;rw[if_neg h2]
   cases hb:ahG id (l.getD (2*i+1) d0) (l.getD i d0) with
   | false =>
     have hF:=zH (HD.out.stop2 d0 id (by rw[hk2];exact hb))
     have L2:=zH (fun w' nb=>by have:=HL.out w' nb (2*i+1) i (by omega) (by omega);rw[hb,E1.out]at this;exact this)
     by_cases h3:2*i+2 < n
     ·have hq:ahG id (l.getD (2*i+2) d0) (l.getD (2*i+1) d0)=false:=by
       cases hq:ahG id (l.getD (2*i+2) d0) (l.getD (2*i+1) d0) with
       | false=>rfl
       | true=>exact absurd ⟨h3,hq⟩ h2
      have L1:=zH (fun w' nb=>by have:=HL.out w' nb (2*i+2) (2*i+1) (by omega) (by omega);rw[hq,E1.out,E2.out]at this;exact this)
      have d3:decide (2*(i:Int)+1+1 < (n:Int))=true:=decide_eq_true (by omega)
      clear hlen hnl h2 hk2 hb hq HL HW HSt
      go_wp2_with fail
      refine(L1.out _ Nb.rfl).mono ?_
      rintro e w1 ⟨rfl,n1'⟩
      have N1:=zH (n1')
      clear n1'
      go_wp2_with fail
      refine(L2.out _ N1.out).mono ?_
      rintro e w2 ⟨rfl,n2'⟩
      have N2:=zH (N1.out.tr n2')
      clear n2'
      go_wp2
      go_ret
      exact⟨_,rfl,zn5.of (HP.out.nb N2.out) HD.out (HK.out.tr (Kp.ofNb (F:=fun _=>False) N2.out) (fun _ h=>h.elim)) HN.out hF.out⟩
     ·have d3:decide (2*(i:Int)+1+1 < (n:Int))=false:=decide_eq_false (by omega)
      clear hlen hnl h2 hk2 hb HL HW HSt
      go_wp2_with fail
      refine(L2.out _ Nb.rfl).mono ?_
      rintro e w2 ⟨rfl,n2'⟩
      have N2:=zH (n2')
      clear n2'
      go_wp2
      go_ret
      exact⟨_,rfl,zn5.of (HP.out.nb N2.out) HD.out (HK.out.tr (Kp.ofNb (F:=fun _=>False) N2.out) (fun _ h=>h.elim)) HN.out hF.out⟩
   | true =>
     have hD:=zH (HSt.out h1' (by rw[hk2];exact hb))
     have L2:=zH (fun w' nb=>by have:=HL.out w' nb (2*i+1) i (by omega) (by omega);rw[hb,E1.out]at this;exact this)
     have W2:=zH (fun w' nb=>by have:=HW.out w' nb i (2*i+1) (by omega) (by omega);rw[E1.out]at this;exact this)
     have HK2:=zH hk2
     by_cases h3:2*i+2 < n
     ·have hq:ahG id (l.getD (2*i+2) d0) (l.getD (2*i+1) d0)=false:=by
       cases hq:ahG id (l.getD (2*i+2) d0) (l.getD (2*i+1) d0) with
       | false=>rfl
       | true=>exact absurd ⟨h3,hq⟩ h2
      have L1:=zH (fun w' nb=>by have:=HL.out w' nb (2*i+2) (2*i+1) (by omega) (by omega);rw[hq,E1.out,E2.out]at this;exact this)
      have d3:decide (2*(i:Int)+1+1 < (n:Int))=true:=decide_eq_true (by omega)
      clear hlen hnl h2 hk2 hb hq HL HW HSt
      go_wp2_with fail
      refine(L1.out _ Nb.rfl).mono ?_
      rintro e w1 ⟨rfl,n1'⟩
      have N1:=zH (n1')
      clear n1'
      go_wp2_with fail
      refine(L2.out _ N1.out).mono ?_
      rintro e w2 ⟨rfl,n2'⟩
      have N2:=zH (N1.out.tr n2')
      clear n2'
      go_wp2_with fail
      refine(W2.out _ N2.out).mono ?_
      rintro e w3 ⟨rfl,p3,k3⟩
      have P3:=zH p3
      have K3:=zH ((HK.out.tr (Kp.ofNb (F:=fun _=>False) N2.out) (fun _ h=>h.elim)).tr k3 (fun _ h => .inl h))
      clear p3 k3
      go_wp2
      go_roundw
      case rel=>exact⟨2*i+1,gsw d0 l i (2*i+1),by rw[E1.out],by omega,by omega,by rw[<- HK2.out];exact hD.out,P3.out,K3.out⟩
      case measure=>simp[intOf];omega
     ·have d3:decide (2*(i:Int)+1+1 < (n:Int))=false:=decide_eq_false (by omega)
      clear hlen hnl h2 hk2 hb HL HW HSt
      go_wp2_with fail
      refine(L2.out _ Nb.rfl).mono ?_
      rintro e w2 ⟨rfl,n2'⟩
      have N2:=zH (n2')
      clear n2'
      go_wp2_with fail
      refine(W2.out _ N2.out).mono ?_
      rintro e w3 ⟨rfl,p3,k3⟩
      have P3:=zH p3
      have K3:=zH ((HK.out.tr (Kp.ofNb (F:=fun _=>False) N2.out) (fun _ h=>h.elim)).tr k3 (fun _ h => .inl h))
      clear p3 k3
      go_wp2
      go_roundw
      case rel=>exact⟨2*i+1,gsw d0 l i (2*i+1),by rw[E1.out],by omega,by omega,by rw[<- HK2.out];exact hD.out,P3.out,K3.out⟩
      case measure=>simp[intOf];omega
def zni(w w':World)(R:Nat)(v:Value)(l0:List (Nat × Nat))(n:Nat):Prop :=
 ∃l',HeP w' R v l'/\l'.length=l0.length/\l'.Perm l0/\(∀k,n<=k->l'.getD k d0=l0.getD k d0)/\HeQ d0 id zmp l' n/\Kp (fun k=>v.ownBlock=some k) w w'
theorem zn1 (R:Nat) (v:Value) (l0:List (Nat × Nat)) (n j0:Nat) (w:World) (h:HeP w R v l0) (hn:n<=l0.length) (hl:l0.length<=1000) (hj0:j0 < n) (hh:UpG d0 id l0 l0 n j0) :
    Calls Tryz.prog 105 #[.iface 107 (.pointer (some ⟨R,0,none⟩)),.int .i64 (j0:Nat)] w fun e w'=>e = .returned (.tuple #[])/\zni w w' R v l0 n:=by
 have H:=zH h
 have HN:=zH hn
 have HS:=zH hh
 have n1:n<=1000:=by omega
 have mL:=zmu R
 have mS:=zK R
 have cL:=zmA
 have cS:=zmq
 clear h hh hn
 go_enter Tryz.func105,Tryz.ntmps105
 go_wp2
 go_loopw [1] (fun u wr=>∃(j:Nat) (l:List (Nat × Nat)),u = .int .i64 j/\j < n/\UpG d0 id l0 l n j/\HeP wr R v l/\Kp (fun k=>v.ownBlock=some k) w wr) (fun u _=>(intOf u).toNat)
 case atStart=>exact⟨j0,l0,rfl,hj0,HS.out,H.out,Kp.rfl⟩
 case round =>
  obtain⟨j,l,rfl,hj,hu,hp,hk⟩:=hrel
  have hlen:l.length<=1000:=by rw[hu.len];exact hl
  have hnl:n<=l.length:=by rw[hu.len];exact HN.out
  have HU:=zH hu
  have HP:=zH hp
  have HK:=zH hk
  by_cases hj0:j=0
  ·subst hj0
   have hF:=zH (hu.stop0 d0 id)
   clear hu hp hk hlen hnl
   go_wp2
   go_end0
   exact⟨rfl,l,HP.out,HU.out.len,HU.out.perm,HU.out.rest,hF.out,HK.out⟩
  obtain⟨i,hi⟩:∃i,i=(j - 1) / 2:=⟨_,rfl⟩
  have E1:=zH (show((i:Nat):Int)=((j:Int) - 1) / 2 by omega)
  have hij:i < j:=by omega
  have d1:(((j:Int) - 1) / 2==(j:Int))=false:=by simp;omega
  have HL:=zH (fun(w':World) (nb:Nb wr w')=>by have:=zmt R v l w' (hp.nb nb) j i (by omega) (by omega) hlen;rw[E1.out]at this;exact this)
  have HW:=zH (fun(w':World) (nb:Nb wr w')=>by have:=z4J R v l w' (hp.nb nb) i j (by omega) (by omega) hlen;rw[E1.out]at this;exact this)
  cases hb:ahG id (l.getD j d0) (l.getD i d0) with
  | false =>
    have hF:=zH (hu.stop d0 id (by rw[<- hi];exact hb))
    rw[hb]at HL
    clear hu hp hk hlen hnl hb HW hi
    go_wp2_with fail
    refine(HL.out _ Nb.rfl).mono ?_
    rintro e w1 ⟨rfl,n1'⟩
    have N1:=zH n1'
    clear n1'
    go_wp2
    go_end0
    exact⟨rfl,l,HP.out.nb N1.out,HU.out.len,HU.out.perm,HU.out.rest,hF.out,HK.out.tr (Kp.ofNb (F:=fun _=>False) N1.out) (fun _ h=>h.elim)⟩
  | true =>
    have hD:=zH (hu.step d0 id (by omega) hj hnl (by rw[<- hi];exact hb))
    rw[hb]at HL
    have HI:=zH hi
    clear hu hp hk hlen hnl hb hi
    go_wp2_with fail
    refine(HL.out _ Nb.rfl).mono ?_
    rintro e w1 ⟨rfl,n1'⟩
    have N1:=zH n1'
    clear n1'
    go_wp2_with fail
    refine(HW.out _ N1.out).mono ?_
    rintro e w3 ⟨rfl,p3,k3⟩
    have P3:=zH p3
    have K3:=zH ((HK.out.tr (Kp.ofNb (F:=fun _=>False) N1.out) (fun _ h=>h.elim)).tr k3 (fun _ h => .inl h))
    clear p3 k3
    go_wp2
    go_roundw
    case rel=>exact⟨i,gsw d0 l i j,by rw[E1.out],by omega,by have:=hD.out;rw[<- HI.out]at this;exact this,P3.out,K3.out⟩
    case measure=>simp[intOf];omega
structure zjR(w w':World)(R:Nat)(v:Value)(l:List (Nat × Nat))(x:Nat × Nat)(n:Nat)(v':Value)(l':List (Nat × Nat)):Prop where
 at':HeP w' R v' l'
 len:l'.length=n
 perm:l.Perm (x::l')
 heap:HeQ d0 id zmp l' l'.length
 own:v'.ownBlock=v.ownBlock
 kp:Kp (fun k=>k=R\/v.ownBlock=some k) w w'
theorem zmH (R:Nat) (v:Value) (l:List (Nat × Nat)) (p:Nat × Nat) (w:World) (h:HeP w R v l) (hl:l.length+1<=1000) (hh:HeQ d0 id zmp l l.length) :
    Calls Tryz.prog 76 #[.iface 107 (.pointer (some ⟨R,0,none⟩)),.iface 75 (.agg (enP p).toArray)] w fun e w'=>e = .returned (.tuple #[])/\∃v' l',HeP w' R v' l'/\l'.Perm (l++[p])/\HeQ d0 id zmp l' l'.length/\(∀g,v'.ownBlock=some g->v.ownBlock=some g\/w.heap.size<=g)/\Kp (fun k=>k=R\/v.ownBlock=some k) w w':=by
 have HU:=zH (zmP R v l p w h hl)
 have hUp:=UpG.push d0 id p hh
 have hlen:(l++[p]).length=l.length+1:=by simp
 have HN:=zH (fun v' w' (hp:HeP w' R v' (l++[p]))=>zE R v' _ w' hp)
 have HP:=zH (fun v' w' (hp:HeP w' R v' (l++[p]))=>zn1 R v' (l++[p]) (l.length+1) l.length w' hp (by omega) (by omega) (by omega) hUp)
 have mN:=zmB R
 have cN:=zmJ
 have mU:=zmQ R
 have cU:=zmW
 have HL:=zH hlen
 rw[hlen]at HN
 generalize (enP p).toArray=u at HU ⊢
 clear h hh hUp hlen
 have e1:((l.length+1:Nat):Int) - 1=(l.length:Int):=by omega
 go_enter Tryz.func76,Tryz.ntmps76
 go_wp2_with fail
 refine HU.out.mono ?_
 rintro e w1 ⟨rfl,v1,p1,g1,k1⟩
 have P1:=zH p1
 have G1:=zH g1
 have K1:=zH k1
 clear p1 g1 k1
 go_wp2_with fail
 refine(HN.out v1 w1 P1.out).mono ?_
 rintro e w2 ⟨rfl,rfl⟩
 go_wp2_with fail
 refine(HP.out v1 _ P1.out).mono ?_
 rintro e w3 ⟨rfl,l2,q1,q2,q3,q4,q5,q6⟩
 have Q1:=zH q1
 have Q2:=zH (q2.trans HL.out)
 have Q3:=zH q3
 have Q5:=zH q5
 have K3:=zH (K1.out.tr q6 (fun k e=>(G1.out k e).imp .inr id))
 clear q1 q2 q3 q4 q5 q6
 go_wp2
 go_end0
 exact⟨rfl,v1,l2,Q1.out,Q3.out,by rw[Q2.out];exact Q5.out,G1.out,K3.out⟩
theorem zmM (R:Nat) (v:Value) (l:List (Nat × Nat)) (n:Nat) (w:World) (h:HeP w R v l) (hn:l.length=n+1) (hl:l.length<=1000) (hh:HeQ d0 id zmp l l.length) :
    Calls Tryz.prog 45 #[.iface 107 (.pointer (some ⟨R,0,none⟩))] w fun e w'=>e = .returned (.iface 75 (.agg (enP (l.getD 0 d0)).toArray))/\∃v' l',zjR w w' R v l (l.getD 0 d0) n v' l':=by
 have HLn:=zH (fun w' (n:Nb w w')=>zE R v l w' (h.nb n))
 have HSw:=zH (z4J R v l w h 0 n (by omega) (by omega) hl)
 have hsl:=zmr d0 l 0 n
 have g:=zc2 d0 l (i:=0) (j:=n) (by omega) (by omega)
 have hg0:(gsw d0 l 0 n).getD n d0=l.getD 0 d0:=by rw[g,if_pos rfl]
 have hperm:=zmw d0 l (i:=0) (j:=n) (by omega) (by omega)
 have HD:=zH (fun w' (hp:HeP w' R v (gsw d0 l 0 n))=>zmR R v zmp (gsw d0 l 0 n) n 0 w' hp (by omega) (by omega) (by omega) (.inr rfl) (fun _ _ _=>trivial) (fun c h1 h2 _ h4=>by
  rw[g,if_neg (by omega),if_neg h4,g,if_neg (by omega),if_neg (by omega)]
  exact hh c h1 (by omega) trivial))
 have HP:=zH (fun w' l2 (hp:HeP w' R v l2) (h2:l2.length=n+1)=>zmT R v l2 n w' hp h2 (by omega))
 have HG:=zH hg0
 have HPm:=zH hperm
 have HSL:=zH hsl
 have HN:=zH hn
 have mN:=zmB R
 have cN:=zmJ
 have mS:=zK R
 have cS:=zmq
 have mP:=zmV R
 have cP:=zn0
 rw[hn]at hl
 clear h hg0 hperm hsl g hh
 rw[hn]at HLn
 clear hn
 go_enter Tryz.func45,Tryz.ntmps45
 go_wp2_with fail
 refine(HLn.out _ Nb.rfl).mono ?_
 rintro e w1 ⟨rfl,rfl⟩
 go_wp2_with fail
 refine HSw.out.mono ?_
 rintro e w2 ⟨rfl,p1,k1⟩
 have P1:=zH p1
 have K1:=zH k1
 clear p1 k1
 go_wp2_with fail
 refine(HD.out _ P1.out).mono ?_
 rintro e w3 ⟨b,rfl,l2,i2,q1,q2,q3,q4,q5,q6⟩
 have Q1:=zH q1
 have Q2:=zH ((q2.len.trans HSL.out).trans HN.out)
 have Q3:=zH (q2.perm.trans HPm.out)
 have Q4:=zH ((q2.rest n (Nat.le_refl _)).trans HG.out)
 have Q5:=zH q4
 have K2:=zH (K1.out.tr q6 (fun _ h => .inl h))
 clear q1 q2 q3 q4 q5 q6
 go_wp2_with fail
 refine(HP.out _ l2 Q1.out Q2.out).mono ?_
 rintro e w4 ⟨rfl,v4,p3,o3,k3⟩
 have P3:=zH p3
 have O3:=zH o3
 have LO:=zH (zn2 d0 Q2.out)
 generalize l2.getD n d0=pe at Q4 LO ⊢
 have K3:=zH ((K2.out.mono (F':=fun k=>k=R\/v.ownBlock=some k) (fun _ _ h => .inr h)).tr k3 (fun _ h => .inl h))
 clear p3 o3 k3
 go_wp2
 go_ret
 have hlen:(l2.take n).length=n:=by rw[List.length_take,Q2.out];omega
 refine⟨by rw[Q4.out];rfl,v4,l2.take n,⟨P3.out,hlen,?_,?_,O3.out,K3.out⟩⟩
 ·have e:=LO.out
  rw[Q4.out]at e
  have h1:=Q3.out.symm
  rw[e]at h1
  exact h1.trans List.perm_append_comm
 ·exact zmN d0 id Q5.out (by have:=Q2.out;omega)
theorem zmy (R:Nat) (v:Value) (l:List (Nat × Nat)) (w:World) (h:HeP w R v l) :
    Calls Tryz.prog 77 #[.pointer (some ⟨R,0,none⟩)] w fun e w'=>e = .returned (.int .i64 (l.length:Nat))/\w'=w:=by
 have HL:=zH (zE R v l w h)
 clear h
 go_enter Tryz.func77,Tryz.ntmps77
 go_wp2_with fail
 refine HL.out.mono ?_
 rintro e w1 ⟨rfl,rfl⟩
 go_wp2
 go_ret
 exact⟨rfl,rfl⟩
theorem zmU (R:Nat) (v:Value) (l:List (Nat × Nat)) (p:Nat × Nat) (w:World) (h:HeP w R v l) (hl:l.length+1<=1000) (hh:HeQ d0 id zmp l l.length) :
    Calls Tryz.prog 43 #[.pointer (some ⟨R,0,none⟩),.agg (enP p).toArray] w fun e w'=>e = .returned (.tuple #[])/\∃v' l',HeP w' R v' l'/\l'.Perm (l++[p])/\HeQ d0 id zmp l' l'.length/\(∀g,v'.ownBlock=some g->v.ownBlock=some g\/w.heap.size<=g)/\Kp (fun k=>k=R\/v.ownBlock=some k) w w':=by
 have HP:=zH (fun w' (n:Nb w w')=>zmH R v l p w' (h.nb n) hl hh)
 obtain⟨xk,xn⟩:=p
 simp only[enP]at HP
 simp only[enP]
 have hRl:=h.blk.lt
 have hgl:=fun g (e:v.ownBlock=some g)=>h.own.lt e
 obtain⟨y,hy⟩:∃y,y=w.alloc (.cells #[(.int .u64 ((xk:Nat):Int)),(.int .i64 ((xn:Nat):Int))] 75):=⟨_,rfl⟩
 have BX:=zH (show Blk y w.heap.size #[(.int .u64 ((xk:Nat):Int)),(.int .i64 ((xn:Nat):Int))] 75 by rw[hy];exact Blk.new _ _ _)
 have NY:=zH (show Nb w y by rw[hy];exact Nb.rfl.al _)
 have HY:=zH hy
 have NR:=zH (show ∀k,(k=R\/v.ownBlock=some k)->k < w.heap.size from fun k e=>e.elim (fun e=>by rw[e];exact hRl) (hgl k))
 clear hy hgl hRl
 clear h hh
 go_enter Tryz.func43,Tryz.ntmps43
 go_wp2_with fail
 rw[<- HY.out]
 have ND:=zH (show Nb w y.drew from NY.out.tr (Below.drew (Below.refl _ _)))
 have BD:=zH (BX.out.nb (Below.drew (Below.refl _ _):Nb y y.drew))
 obtain⟨a0,a1⟩:y.cell? ⟨w.heap.size,0,none⟩=some (.int .u64 ((xk:Nat):Int))/\y.cell? ⟨w.heap.size,1,none⟩=some (.int .i64 ((xn:Nat):Int)):=⟨BX.out.cell 0,BX.out.cell 1⟩
 go_region_held3 (fun w'=>w'.cell? ⟨w.heap.size,0,none⟩=some (.int .u64 ((xk:Nat):Int))/\w'.cell? ⟨w.heap.size,1,none⟩=some (.int .i64 ((xn:Nat):Int))) (first | go_keep | exact(fun(b:Blk w7 w.heap.size _ _)=>⟨b.cell 0,b.cell 1⟩) (BD.out.keep q5 (fun e=>Nat.lt_irrefl _ (NR.out _ e)))) ((go_at_call 76;refine(HP.out _ ND.out).mono ?_;rintro e w7 ⟨rfl,v7,l7,q1,q2,q3,q4,q5⟩))
 have Q1:=zH q1
 have Q2:=zH q2
 have Q3:=zH q3
 have Q4:=zH (show ∀g,v7.ownBlock=some g->v.ownBlock=some g\/w.heap.size<=g from fun g e=>(q4 g e).imp id (fun h=>Nat.le_trans ND.out.size h))
 have Q5:=zH ((Kp.ofNb ND.out).tr q5 (fun k e => .inl e))
 clear q1 q2 q3 q4 q5
 go_wp2
 go_end0
 exact⟨rfl,v7,l7,Q1.out,Q2.out,Q3.out,Q4.out,Q5.out⟩
theorem Blk.rowH{cs:Array Value}{t:TypeId}(h:Blk w R cs t)(cs':Array Value):Blk (w.setRow R cs') R cs' t:=setRow_heap w R cs cs' t (0,0) h
theorem Kp.rowH(w:World)(R:Nat)(cs':Array Value):Kp (fun b=>b=R) w (w.setRow R cs') :=
 ⟨setRow_os w R cs',setRow_tape w R cs',setRow_output w R cs',by rw[setRow_size];exact Nat.le_refl _,fun k _ hn=>setRow_other w R k cs' hn⟩
theorem zmD (R:Nat) (v:Value) (w:World) (h:HeP w R v []) :
    Calls Tryz.prog 44 #[.pointer (some ⟨R,0,none⟩)] w fun e w'=>e = .returned (.tuple #[.agg #[.int .u64 0,.int .i64 0],.bool false])/\Nb w w':=by
 have HL:=zH (fun w' (n:Nb w w')=>zmy R v [] w' (h.nb n))
 clear h
 simp only[List.length_nil]at HL
 go_enter Tryz.func44,Tryz.ntmps44
 go_wp2_with fail
 refine(HL.out _ (Nb.rfl.al _)).mono ?_
 rintro e w1 ⟨rfl,rfl⟩
 go_wp2
 refine bodyPost_ret (v := .tuple #[.agg #[.int .u64 0,.int .i64 0],.bool false]) (by simp[results,Tryz.results44,go_sem]) rfl ?_
 exact⟨rfl,(Nb.rfl.al _).al _⟩
theorem zmz (R:Nat) (v:Value) (l:List (Nat × Nat)) (n:Nat) (w:World) (h:HeP w R v l) (hn:l.length=n+1) (hl:l.length<=1000) :
    Calls Tryz.prog 44 #[.pointer (some ⟨R,0,none⟩)] w fun e w'=>e = .returned (.tuple #[.agg (enP (l.getD 0 d0)).toArray,.bool true])/\Nb w w':=by
 have HL:=zH (fun w' (n:Nb w w')=>zmy R v l w' (h.nb n))
 obtain⟨g,cap,rfl,hr,hgR,hn1,hn2⟩:=h.row (by omega)
 have mc:=h.blk.cell 0
 simp only[List.getElem?_toArray,List.getElem?_cons_zero,List.getElem?_cons_succ]at mc
 have hRl:=h.blk.lt
 have hgl:=hr.lt
 obtain⟨p,hp⟩:∃q,l.getD 0 d0=q:=⟨_,rfl⟩
 rw[hp]
 obtain⟨xk,xn⟩:=p
 obtain⟨⟨ma0,ma1⟩,-⟩:=hr.at (by omega) hp
 simp only[enP]
 simp only[Nat.zero_mul,Nat.zero_add]at ma0 ma1
 rw[hn]at HL mc
 clear h hr hp hn1
 rw[hn]at hl
 go_enter Tryz.func44,Tryz.ntmps44
 go_wp2_with fail
 refine(HL.out _ (Nb.rfl.al _)).mono ?_
 rintro e w1 ⟨rfl,rfl⟩
 have d1:(((n+1:Nat):Int)==0)=false:=by simp;omega
 go_wp2
 refine bodyPost_ret (v := .tuple #[.agg #[(.int .u64 ((xk:Nat):Int)),(.int .i64 ((xn:Nat):Int))],.bool true]) (by simp[results,Tryz.results44,go_sem]) rfl ?_
 exact⟨rfl,Nb.rfl.al _⟩
theorem zmG (R:Nat) (v:Value) (w:World) (h:HeP w R v []) :
    Calls Tryz.prog 20 #[.pointer (some ⟨R,0,none⟩)] w fun e w'=>e = .returned (.tuple #[.agg #[.int .u64 0,.int .i64 0],.bool false])/\Nb w w':=by
 have HL:=zH (fun w' (n:Nb w w')=>zmD R v w' (h.nb n))
 clear h
 obtain⟨y,hy⟩:∃y,y=w.alloc (.cells #[.int .u64 0,.int .i64 0] 75):=⟨_,rfl⟩
 have X0:=zH (show Blk y w.heap.size #[.int .u64 0,.int .i64 0] 75 by rw[hy];exact Blk.new _ _ _)
 have NY:=zH (show Nb w y by rw[hy];exact Nb.rfl.al _)
 have HY:=zH hy
 clear hy
 go_enter Tryz.func20,Tryz.ntmps20
 go_wp2_with fail
 rw[<- HY.out]
 refine(HL.out _ NY.out).mono ?_
 rintro e w1 ⟨rfl,n1⟩
 have X2:=zH ((X0.out.nb n1).nb (Nb.rfl.al (.cells #[.int .u64 0,.int .i64 0] 75)))
 have N1:=zH ((NY.out.tr n1).al (.cells #[.int .u64 0,.int .i64 0] 75))
 clear n1
 go_wp2_with (refine wpList_store_row (by rfl) _ _ _ (by rfl) _ _ (by rfl) (by rfl) _ _ X2.out (by kernel_rfl) (by rfl) (by simp[Value.oneCell']) ?_)
 have hb:=Blk.rowH X2.out #[.int .u64 0,.int .i64 0]
 have kq:=Kp.rowH (w1.alloc (.cells #[.int .u64 0,.int .i64 0] 75)) w.heap.size #[.int .u64 0,.int .i64 0]
 change bodyPost _ _ _ _ _ (World.setRow (w1.alloc (.cells #[.int .u64 0,.int .i64 0] 75)) w.heap.size #[.int .u64 0,.int .i64 0])
 generalize World.setRow (w1.alloc (.cells #[.int .u64 0,.int .i64 0] 75)) w.heap.size #[.int .u64 0,.int .i64 0]=WW at hb kq ⊢
 obtain⟨e0,e1⟩:WW.cell? ⟨w.heap.size,0,none⟩=some (.int .u64 0)/\WW.cell? ⟨w.heap.size,1,none⟩=some (.int .i64 0):=⟨hb.cell 0,hb.cell 1⟩
 exact bodyPost_ret (v := .tuple #[.agg #[.int .u64 0,.int .i64 0],.bool false]) (by simp[results,Tryz.results20,go_sem,e0,e1]) rfl ⟨rfl,N1.out.trans (kq.toBelow N1.out.size (fun k hk=>by omega))⟩
theorem zmF (R:Nat) (v:Value) (l:List (Nat × Nat)) (n:Nat) (w:World) (h:HeP w R v l) (hn:l.length=n+1) (hl:l.length<=1000) (hh:HeQ d0 id zmp l l.length) :
    Calls Tryz.prog 20 #[.pointer (some ⟨R,0,none⟩)] w fun e w'=>e = .returned (.tuple #[.agg (enP (l.getD 0 d0)).toArray,.bool true])/\∃v' l',zjR w w' R v l (l.getD 0 d0) n v' l':=by
 have HF:=zH (fun w' (m:Nb w w')=>zmz R v l n w' (h.nb m) hn hl)
 have HP:=zH (fun w' (m:Nb w w')=>zmM R v l n w' (h.nb m) hn hl hh)
 have hRl:=h.blk.lt
 have hgl:=fun g (e:v.ownBlock=some g)=>h.own.lt e
 have NR:=zH (show ∀k,(k=R\/v.ownBlock=some k)->k < w.heap.size from fun k e=>e.elim (fun e=>by rw[e];exact hRl) (hgl k))
 have TK:=zH (show ∀w1 w2 v' l',Nb w w1->zjR w1 w2 R v l (l.getD 0 d0) n v' l'->∀w3,Kp (fun k=>k=w.heap.size) w2 w3->zjR w w3 R v l (l.getD 0 d0) n v' l' from fun w1 w2 v' l' m t w3 k=>by
  have ho:∀g,v'.ownBlock=some g->g < w.heap.size:=fun g e=>NR.out g (.inr (by rw[<- t.own];exact e))
  refine⟨t.at'.keep k (fun e=>by omega) (fun g e q=>by have:=ho g e;omega),t.len,t.perm,t.heap,t.own,?_⟩
  exact((Kp.ofNb m).tr t.kp (fun k e => .inl e)).tr k (fun k e => .inr (by omega)))
 clear h hRl hgl
 obtain⟨p,hp⟩:∃q,l.getD 0 d0=q:=⟨_,rfl⟩
 rw[hp]at HF HP TK ⊢
 clear hp
 obtain⟨xk,xn⟩:=p
 simp only[enP]at HF HP ⊢
 obtain⟨y,hy⟩:∃y,y=w.alloc (.cells #[.int .u64 0,.int .i64 0] 75):=⟨_,rfl⟩
 have X0:=zH (show Blk y w.heap.size #[.int .u64 0,.int .i64 0] 75 by rw[hy];exact Blk.new _ _ _)
 have NY:=zH (show Nb w y by rw[hy];exact Nb.rfl.al _)
 have HY:=zH hy
 have SY:=zH (show y.heap.size=w.heap.size+1 by rw[hy,World.size_alloc])
 clear hy
 go_enter Tryz.func20,Tryz.ntmps20
 go_wp2_with fail
 rw[<- HY.out]
 refine(HF.out _ NY.out).mono ?_
 rintro e w1 ⟨rfl,n1⟩
 go_wp2_with fail
 obtain⟨y1,hy1⟩:∃y1,y1=w1.alloc (.cells #[(.int .u64 ((xk:Nat):Int)),(.int .i64 ((xn:Nat):Int))] 75):=⟨_,rfl⟩
 have X1:=zH (show Blk y1 w1.heap.size #[(.int .u64 ((xk:Nat):Int)),(.int .i64 ((xn:Nat):Int))] 75 by rw[hy1];exact Blk.new _ _ _)
 have N1:=zH (show Nb y y1 by rw[hy1];exact n1.al _)
 have S1:=zH (show w.heap.size+1<=w1.heap.size by rw[<- SY.out];exact n1.size)
 rw[<- hy1]
 clear hy1 n1
 refine(HP.out _ (NY.out.tr N1.out)).mono ?_
 rintro e w2 ⟨rfl,v2,l2,t2⟩
 have T2:=zH t2
 have X2:=zH ((X0.out.nb N1.out).keep t2.kp (fun e=>by have:=NR.out _ e;omega))
 have X3:=zH (X1.out.keep t2.kp (fun e=>by have:=NR.out _ e;have:=S1.out;omega))
 clear t2
 obtain⟨b0,b1⟩:w2.cell? ⟨w1.heap.size,0,none⟩=some (.int .u64 ((xk:Nat):Int))/\w2.cell? ⟨w1.heap.size,1,none⟩=some (.int .i64 ((xn:Nat):Int)):=⟨X3.out.cell 0,X3.out.cell 1⟩
 go_wp2_with (refine wpList_store_row (by rfl) _ _ _ (by rfl) _ _ (by rfl) (by rfl) _ _ X2.out (by kernel_rfl) (by rfl) (by simp[Value.oneCell']) ?_)
 clear b0 b1
 have hb:=Blk.rowH X2.out #[(.int .u64 ((xk:Nat):Int)),(.int .i64 ((xn:Nat):Int))]
 have kq:=Kp.rowH w2 w.heap.size #[(.int .u64 ((xk:Nat):Int)),(.int .i64 ((xn:Nat):Int))]
 change bodyPost _ _ _ _ _ (World.setRow w2 w.heap.size #[(.int .u64 ((xk:Nat):Int)),(.int .i64 ((xn:Nat):Int))])
 generalize World.setRow w2 w.heap.size #[(.int .u64 ((xk:Nat):Int)),(.int .i64 ((xn:Nat):Int))]=WW at hb kq ⊢
 obtain⟨e0,e1⟩:WW.cell? ⟨w.heap.size,0,none⟩=some (.int .u64 ((xk:Nat):Int))/\WW.cell? ⟨w.heap.size,1,none⟩=some (.int .i64 ((xn:Nat):Int)):=⟨hb.cell 0,hb.cell 1⟩
 exact bodyPost_ret (v := .tuple #[.agg #[(.int .u64 ((xk:Nat):Int)),(.int .i64 ((xn:Nat):Int))],.bool true]) (by simp[results,Tryz.results20,go_sem,e0,e1]) rfl ⟨rfl,v2,l2,TK.out _ _ _ _ (NY.out.tr N1.out) T2.out _ kq⟩
end Go.Proofs.YtplbmlpdefpplaaGreatDoor
