/- Contracts of the scanner's parts, and more. Conditions: as each says. -/
import Derived.Test.YtplbmlpdefpplaaGreatDoorGi
set_option maxHeartbeats 3200000
set_option maxRecDepth 100000
namespace Go.Proofs.YtplbmlpdefpplaaGreatDoor
set_option linter.unusedVariables false
set_option linter.unusedSimpArgs false
open Go.RowKit
variable {e:Ending} {R c:Nat} {D P P0 P1:Nat->Prop} {x:Nx} {m m':PM} {v vd vd0 vn:Value} {w w' w0 w1:World}
theorem zaI(k c:Int):z0m k c<=2048:=by
 unfold z0m
 split
 ·rename_i h
  simp only[isC,Bool.and_eq_true,decide_eq_true_eq]at h
  unfold z0R at h
  unfold atF zf8
  repeat' split
  all_goals (first | omega | (split at h<;>omega) | (repeat' split at h)<;>omega)
 ·omega
theorem zcy (R:Nat) (m:PM) (vn vd:Value) (P:Nat->Prop) (k:KS) (b d:Nat) (vk:Value) (v:Nat) (w:World) (h:MS w R m vn vd P) (hB:z0i w) (hx:z48 w P R b) (hy:Box w P d vk 199) (hk:KSV w P R k vk) (hv:v < 4294967296) (hs:m.stuffs<=100000) :
    Calls Tryz.prog 238 #[.int .u64 v,.pointer (some ⟨b,0,none⟩),.pointer (some ⟨d,0,none⟩)] w (z1z w R vd P (z1W (.size k) v m)):=by
 obtain⟨fi,ca,rfl,hA⟩:=hk
 obtain⟨vi,vR,vP,hb,_⟩:=h.blk
 have hw:IntKind.i64.wrap (v:Int)=v:=by rw[IntKind.wrap_i64];omega
 have cb:w.cell? ⟨b,0,none⟩=some (.pointer (some ⟨R,0,none⟩)):=hx.2.cell 0
 have c31:w.cell? ⟨R,31,none⟩=some (.int .i64 m.f.K):=hb.cell 31
 have hcf:=k.enters
 have HZ:=zH (zeD m.f.K (v:Nat) w hB.2)
 have HV:=zH (zaI m.f.K (v:Nat))
 have BAD:=zH (fun w' (n:Nb w w')=>z3x R m vn vd P 5 w' (h.nb n))
 have THEN:=zH (fun w' (n:Nb w w')=>zfd k R m vn vd P (z0m m.f.K (v:Nat)) _ _ _ w' (h.nb n) ⟨hB.1.below n,hB.2.below n⟩ (KSV.keep ⟨fi,ca,rfl,hA⟩ (Sm.nb n) (fun _ h=>h)) (zaI _ _) hs)
 have CB:=zH (fun w' (n:Nb w w')=>(hx.2.nb n).cell 0)
 have CD:=zH (fun w' (n:Nb w w')=>(hy.2.nb n).cell 0)
 have CR:=zH (fun w' (n:Nb w w')=>(hb.nb n).cell 34)
 have S:=zH h.st
 have eE:z1W (.size k) v m=if z1c m.f.K (v:Nat)≠0\/(m.f.R=true/\z0m m.f.K (v:Nat)≠0)then m.bad 5 else zcw k (z0m m.f.K (v:Nat)) m:=rfl
 rw[eE]
 generalize z0m m.f.K (v:Nat)=V at *
 generalize z1c m.f.K (v:Nat)=E at *
 generalize k.F=K at *
 clear hA hx hy hB h hb eE
 by_cases hE:E=0
 ·subst hE
  cases hr:m.f.R with
  | true =>
    by_cases hV:V=0
    ·subst hV
     rw[if_neg (by simp)]
     go_enter Tryz.func238,Tryz.ntmps238
     go_wp2_with fail
     refine HZ.out.mono ?_
     rintro e w1 ⟨rfl,n1⟩
     have N1:=zH n1
     have cb1:w1.cell? ⟨b,0,none⟩=some (.pointer (some ⟨R,0,none⟩)):=CB.out w1 n1
     have cd1:w1.cell? ⟨d,0,none⟩=some (.func (.func K) fi ca):=CD.out w1 n1
     have c34:w1.cell? ⟨R,34,none⟩=some (.bool m.f.R):=CR.out w1 n1
     rw[hr]at c34
     clear n1
     go_wp2_with fail
     refine(THEN.out w1 N1.out).mono ?_
     rintro e w4 ⟨rfl,h4⟩
     have H4:=zH (zZ.from (S.out.nb N1.out) h4)
     clear h4
     go_wp2
     go_end0
     exact⟨rfl,H4.out⟩
    ·rw[if_pos (.inr ⟨rfl,hV⟩)]
     have qV:((V:Int) != 0)=true:=by rw[bne_iff_ne];omega
     clear hV
     go_enter Tryz.func238,Tryz.ntmps238
     go_wp2_with fail
     refine HZ.out.mono ?_
     rintro e w1 ⟨rfl,n1⟩
     have N1:=zH n1
     have cb1:w1.cell? ⟨b,0,none⟩=some (.pointer (some ⟨R,0,none⟩)):=CB.out w1 n1
     have cd1:w1.cell? ⟨d,0,none⟩=some (.func (.func K) fi ca):=CD.out w1 n1
     have c34:w1.cell? ⟨R,34,none⟩=some (.bool m.f.R):=CR.out w1 n1
     rw[hr]at c34
     clear n1
     go_wp2_with fail
     refine(BAD.out w1 N1.out).mono ?_
     rintro e w4 ⟨rfl,h4⟩
     have H4:=zH (zZ.from (S.out.nb N1.out) h4)
     clear h4
     go_wp2
     go_end0
     exact⟨rfl,H4.out⟩
  | false =>
    rw[if_neg (by simp)]
    go_enter Tryz.func238,Tryz.ntmps238
    go_wp2_with fail
    refine HZ.out.mono ?_
    rintro e w1 ⟨rfl,n1⟩
    have N1:=zH n1
    have cb1:w1.cell? ⟨b,0,none⟩=some (.pointer (some ⟨R,0,none⟩)):=CB.out w1 n1
    have cd1:w1.cell? ⟨d,0,none⟩=some (.func (.func K) fi ca):=CD.out w1 n1
    have c34:w1.cell? ⟨R,34,none⟩=some (.bool m.f.R):=CR.out w1 n1
    rw[hr]at c34
    clear n1
    go_wp2_with fail
    refine(THEN.out w1 N1.out).mono ?_
    rintro e w4 ⟨rfl,h4⟩
    have H4:=zH (zZ.from (S.out.nb N1.out) h4)
    clear h4
    go_wp2
    go_end0
    exact⟨rfl,H4.out⟩
 ·rw[if_pos (.inl hE)]
  have qE:((E:Int) != 0)=true:=by rw[bne_iff_ne];omega
  clear hE
  go_enter Tryz.func238,Tryz.ntmps238
  go_wp2_with fail
  refine HZ.out.mono ?_
  rintro e w1 ⟨rfl,n1⟩
  have N1:=zH n1
  have cb1:w1.cell? ⟨b,0,none⟩=some (.pointer (some ⟨R,0,none⟩)):=CB.out w1 n1
  clear n1
  go_wp2_with fail
  refine(BAD.out w1 N1.out).mono ?_
  rintro e w4 ⟨rfl,h4⟩
  have H4:=zH (zZ.from (S.out.nb N1.out) h4)
  clear h4
  go_wp2
  go_end0
  exact⟨rfl,H4.out⟩
theorem St.putD {w7:World} {v7:Value} (h:St w0 R vd0 P0 m vn vd P w) (z:Nat) (ho:z04 w7 v7 (m.l++[z])) (hk:Kp (fun k=>vd.ownBlock=some k) w w7) (hg:∀g,v7.ownBlock=some g->vd.ownBlock=some g\/w.heap.size<=g) :
    St w0 R vd0 P0 { m with l:=m.l++[z] } vn v7 P (w7.setCell ⟨R,41,none⟩ v7):=by
 obtain⟨vi,vR,vP,k1,k2,k3,k4⟩:=h.ms.blk
 have hR:=h.ms.ltR
 have hk2:Kp (fun b=>b=R) w7 (w7.setCell ⟨R,41,none⟩ v7):=Kp.set (F:=fun b=>b=R) rfl
 have hk3:Kp (Tm R vd) w (w7.setCell ⟨R,41,none⟩ v7):=(hk.mono (F':=Tm R vd) (fun _ _ h => .inr h)).tr hk2 (fun _ h => .inl (.inl h))
 have hs:Sm P w (w7.setCell ⟨R,41,none⟩ v7):=hk3.sm (fun b hb=>h.ms.nP b hb)
 refine⟨⟨⟨vi,vR,vP,((k1.keep hk h.ms.neR).set 41 v7),k2.keep hs (fun _ h=>h),k3.keep hs (fun _ h=>h),k4.keep hs (fun _ h=>h)⟩,ho.keep hk2 (fun g hg' e => ?_),fun e=>by simp at e,fun b hb => ?_,fun b hb=>Nat.lt_of_lt_of_le (h.ms.lt b hb) hk3.size⟩,h.kp.tr hk3 h.hT,h.hP,fun b hb => ?_⟩
 ·subst e
  rcases hg g hg' with h1 | h1
  ·exact h.ms.neR h1
  ·omega
 ·rintro(e | e)
  ·exact h.ms.nP b hb (.inl e)
  ·rcases hg b e with h1 | h1
   ·exact h.ms.nP b hb (.inr h1)
   ·have:=h.ms.lt b hb
    omega
 ·rcases hb with e | e
  ·exact h.hT b (.inl e)
  ·rcases hg b e with h1 | h1
   ·exact h.hT b (.inr h1)
   ·exact .inr (Nat.le_trans h.kp.size h1)
theorem zch (R:Nat) (m:PM) (vn vd:Value) (P:Nat->Prop) (n:Nat) (k:K0) (b d f:Nat) (vk:Value) (v:Nat) (w:World) (h:MS w R m vn vd P) (hB:z0i w) (hx:z48 w P R b) (hy:zfQ w P d n) (hz:Box w P f vk 1) (hk:K0V w P R k vk) (hn:0 < n/\n<=2048) (hs:m.stuffs<=100000) (hl:m.l.length<=100000) :
    Calls Tryz.prog 240 #[.int .u64 v,.pointer (some ⟨b,0,none⟩),.pointer (some ⟨d,0,none⟩),.pointer (some ⟨f,0,none⟩)] w (z1z w R vd P (z1W (.data n k) v m)):=by
 obtain⟨fi,ca,rfl,hA,hok⟩:=hk
 obtain⟨vi,vR,vP,hb,_⟩:=h.blk
 obtain⟨ad,cp,hvd,hbs,_⟩:=h.own.bs
 have hw:=zip v
 obtain⟨z,hz'⟩:∃z,z=v%256:=⟨_,rfl⟩
 have z256:z < 256:=by omega
 have eE:z1W (.data n k) v m=PM.data { m with l:=m.l++[z] } (n - 1) k:=by rw[hz'];rfl
 rw[eE]
 rw[<- hz']at hw
 have cb:w.cell? ⟨b,0,none⟩=some (.pointer (some ⟨R,0,none⟩)):=hx.2.cell 0
 have c41:w.cell? ⟨R,41,none⟩=some vd:=hb.cell 41
 have hbR:b≠R:=fun e=>h.nP b hx.1 (.inl e)
 have hdR:d≠R:=fun e=>h.nP d hy.1 (.inl e)
 have hfR:f≠R:=fun e=>h.nP f hz.1 (.inl e)
 have hlb:b < w.heap.size:=hx.2.lt
 have hlR:R < w.heap.size:=h.ltR
 have H:=zH h
 have HBO:=zH hB
 have HOWN:=zH h.own
 have HBL:=zH hb
 have HX:=zH hx
 have HY:=zH hy
 have HZ:=zH hz
 have HK:RowKit.Hid (K0V w P R k (.func (.func k.F) fi ca)):=zH ⟨fi,ca,rfl,hA,hok⟩
 have HN:=zH hn
 have HS:=zH hs
 have HL:=zH hl
 have hn1:0 < (n:Int):=by omega
 have hn2:(n:Int)<=2048:=by omega
 clear h hB hb hx hy hz hA hok hz' eE hn hs hl hbs
 subst hvd
 go_enter Tryz.func240,Tryz.ntmps240
 go_wp2
 have N1:RowKit.Hid (Nb w (w.alloc (.cells #[.int .u8 (z:Nat)] 5)).drew):=zH ((Nb.rfl.al _).tr (show Nb _ (World.drew _)from Nb.drewN _ 1))
 have F1:=zH ((zf.lit w [z] #[.int .u8 (z:Nat)] (by simp) 1 (by simp) (by simp) (by simp;omega)).keep (show Nb _ (World.drew _)from Nb.drewN _ 1))
 go_region_law (first
     | (refine z1P _ rfl (.tmp 10) (.tmp 13) rfl (.slice ad m.l.length cp) m.l (by simp[Act.eval,Act.put]) (HOWN.out.keep (F:=fun _=>False) (Kp.ofNb N1.out) (by simp)) (some ⟨w.heap.size,0,none⟩) 1 [z] 1 rfl (by simp[Act.eval,Act.put]) F1.out.bs.1 (by simp) (by have:=HL.out;simp only[List.length_singleton];omega) ?_
        intro v7 w7 ho hk hg
        have HO:=zH ho
        have HKP:=zH hk
        have HG:=zH hg
        have c7:w7.cell? ⟨R,41,none⟩=some (.slice ad m.l.length cp):=(((HBL.out.nb N1.out).keep hk H.out.neR).cell 41)
        have f7:=(((HBL.out.nb N1.out).keep hk H.out.neR).frozen 41)
        have cb7:w7.cell? ⟨b,0,none⟩=some (.pointer (some ⟨R,0,none⟩)):=((HX.out.2.nb N1.out).keep hk (fun e=>H.out.nP b HX.out.1 (.inr e))).cell 0
        obtain⟨g7,q7,rfl⟩:=ho.shape (by simp)
        clear ho hk hg))
 all_goals
  have ho:=HO.out
  have hg:=HG.out
  have hkp:=HKP.out
  obtain⟨m2,e2⟩:∃m2:PM,m2={ m with l:=m.l++[z] }:=⟨_,rfl⟩
  have s2:=(H.out.st.nb N1.out).putD z ho hkp hg
  rw[<- e2]at s2
  have hlen:(m.l++[z]).length=m.l.length+1:=by simp
  rw[hlen]at s2
  have sm:=s2.kp.sm H.out.nP
  have kn:=z3S R m2 vn _ P (n - 1) k _ _ _ _ s2.ms (s2.both H.out HBO.out) (HK.out.keep sm (fun _ h=>h)) (by have:=HN.out;omega) (by rw[e2];exact HS.out)
  rw[show(((n - 1:Nat)):Int)=(n:Int) - 1 by have:=HN.out;omega]at kn
  have cb2:=(HX.out.keep sm (fun _ h=>h)).2.cell 0
  have cd2:=(HY.out.keep sm (fun _ h=>h)).2.cell 0
  have cf2:=(HZ.out.keep sm (fun _ h=>h)).2.cell 0
  have cb3:_=some (Value.pointer (some ⟨R,0,none⟩)):=cb2
  have cd3:_=some (Value.int .i64 (n:Nat)):=cd2
  have cf3:_=some (Value.func (.func k.F) fi ca):=cf2
  have EM:=zH e2
  have KN:=zH kn
  have S:=zH s2
  clear kn s2 sm cb2 cd2 cf2 ho hg hkp e2 hlen cb c41 c7 f7 cb7
  generalize w7.setCell ⟨R,41,none⟩ (.slice (some ⟨g7,0,none⟩) (m.l.length+1) q7)=w8 at *
  go_wp2_with fail
  refine KN.out.mono ?_
  rintro e w4 ⟨rfl,h4⟩
  have H4:=zH (zZ.from S.out h4)
  clear h4
  go_wp2
  go_end0
  exact⟨rfl,by rw[<- EM.out];exact H4.out⟩
theorem zfn (k:KN) (R:Nat) (m:PM) (vn vd:Value) (P:Nat->Prop) (v:Nat) (K:Nat) (fi ca:Array Value) (w:World) (h:MS w R m vn vd P) (hB:z0i w) (hk:KNV w P R k (.func (.func K) fi ca)) (hv:v < 4294967296) (hs:m.stuffs<=100000) (hl:m.l.length<=100000) :
    Calls Tryz.prog K (fi++#[.int .u64 v]++ca) w (z1z w R vd P (z1W k v m)):=by
 obtain⟨a,c,e,hA⟩:=hk
 cases e
 cases k
 case identified=>obtain⟨rfl,rfl⟩:=hA;exact z5Y R m vn vd P v w h hv
 case longOrNot=>obtain⟨rfl,rfl⟩:=hA;exact z69 R m vn vd P v w h
 case prolonged=>obtain⟨rfl,rfl⟩:=hA;exact z67 R m vn vd P v w h hv
 case classicOrNot=>obtain⟨rfl,rfl⟩:=hA;exact z46 R m vn vd P v w h
 case fdOrXL=>obtain⟨rfl,rfl⟩:=hA;exact z9N R m vn vd P v w h
 case flag f k=>obtain⟨rfl,b,d,vk,rfl,hx,hy,hk⟩:=hA;exact zcr R m vn vd P f k b d vk v w h hB hx hy hk hs
 case size k=>obtain⟨rfl,b,d,vk,rfl,hx,hy,hk⟩:=hA;exact zcy R m vn vd P k b d vk v w h hB hx hy hk hv hs
 case data n k=>obtain⟨rfl,hn,b,d,f,vk,rfl,hx,hy,hz,hk⟩:=hA;exact zch R m vn vd P n k b d f vk v w h hB hx hy hz hk hn hs hl
 case check n k=>obtain⟨rfl,b,d,f,vk,rfl,hx,hy,hz,hk⟩:=hA;exact zah R m vn vd P n k b d f vk v w h hB hx hy hz hk hs
 case sdt=>obtain⟨rfl,b,rfl,hx⟩:=hA;exact zgj R m vn vd P b v w h hx
 case vcid n=>obtain⟨rfl,hn,b,d,rfl,hx,hy⟩:=hA;exact zek R m vn vd P b d n v w h hx hy hn
 case af n=>obtain⟨rfl,hn,b,d,rfl,hx,hy⟩:=hA;exact ziO R m vn vd P b d n v w h hB hx hy hn hs hv
structure StF(w0:World)(R:Nat)(vd0:Value)(P0 D0:Nat->Prop)(m:PM)(vn vd:Value)(P:Nat->Prop)(w:World):Prop where
 ms:MS w R m vn vd P
 kp:Kp (fun b=>Tm R vd0 b\/D0 b) w0 w
 hP:∀b,P b->P0 b\/Tm R vd0 b\/w0.heap.size<=b
 hT:∀b,Tm R vd b->Tm R vd0 b\/w0.heap.size<=b
def z0v(w0:World)(R:Nat)(vd0:Value)(P0 D0:Nat->Prop)(m':PM)(e:Ending)(w':World):Prop :=
 e = .returned (.tuple #[])/\∃P' D' vd' vn',StF w0 R vd0 P0 D0 m' vn' vd' P' w'/\NxV w' P' R D' m'.nx vn'/\∀b,D' b->(D0 b\/w0.heap.size<=b)/\b < w'.heap.size
theorem St.toF(h:St w0 R vd0 P0 m vn vd P w)(D0:Nat->Prop):StF w0 R vd0 P0 D0 m vn vd P w:=⟨h.ms,h.kp.mono (fun _ _ h => .inl h),h.hP,h.hT⟩
theorem z0v.behind(h:StF w0 R vd P D m vn vd P w)(k:z1z w R vd P m' e w'):z0v w0 R vd P D m' e w':=by
 obtain⟨rfl,P',D',vd',vn',h1,h2,h3⟩:=k
 refine⟨rfl,P',D',vd',vn',⟨h1.ms,h.kp.tr h1.kp (fun _ e => .inl (.inl e)),fun b hb => ?_,fun b hb => ?_⟩,h2,fun b hb=>⟨.inr ?_,(h3 b hb).2⟩⟩
 ·rcases h1.hP b hb with e | e | e
  ·exact .inl e
  ·exact .inr (.inl e)
  ·exact .inr (.inr (Nat.le_trans h.kp.size e))
 ·rcases h1.hT b hb with e | e
  ·exact .inl e
  ·exact .inr (Nat.le_trans h.kp.size e)
 ·rcases(h3 b hb).1 with e | e
  ·exact e.elim
  ·exact Nat.le_trans h.kp.size e
theorem MS.var{t:TypeId}(h:MS w R m vn vd P)(hc:Blk w c #[v] t)(ht:t≠5)(ht2:t≠197):¬Tm R vd c:=by
 obtain⟨vi,vR,vP,k1,_⟩:=h.blk
 rintro(e | e)
 ·subst e
  exact(Blk.ne hc k1 ht2) rfl
 ·exact(h.own.ne e hc ht) rfl
theorem Blk.noTab{t:TypeId}(hc:Blk w c #[v] t)(hb:z0i w):c≠1/\c≠0:=by
 have c1:w.cell? ⟨c,1,none⟩=none:=by rw[hc.cell 1];rfl
 have a1:w.cell? ⟨1,1,none⟩=some (.int .u64 0):=hb.1 1 _ rfl
 have b1:w.cell? ⟨0,1,none⟩=some (.int .i64 16):=hb.2 1 (by omega)
 constructor
 ·rintro rfl;rw[c1]at a1;cases a1
 ·rintro rfl;rw[c1]at b1;cases b1
structure Bd(m:PM):Prop where
 hs:m.stuffs<=100000
 hl:m.l.length<=100000
theorem zaj (R:Nat) (m:PM) (vn vd:Value) (P D:Nat->Prop) (left n:Nat) (k:KN) (cn cs ct:Nat) (vk:Value) (b:Nat) (w:World) (h:MS w R m vn vd P) (hB:z0i w) (hbd:Bd m) (hb:b<=1)
    (hvn:vn = .func (.func 220) #[] #[.pointer (some ⟨cn,0,none⟩),.pointer (some ⟨cs,0,none⟩),.pointer (some ⟨ct,0,none⟩)])
    (h1:Blk w cn #[.int .u64 (n:Nat)] 73) (h2:Blk w cs #[.int .i64 (left:Nat)] 3) (h3:Box w P ct vk 268) (h4:KNV w P R k vk) (h5:D cn/\D cs) (h6:¬P cn/\¬P cs) (h7:0 < left/\left<=32/\n < 2^(32 - left)) (hD:∀b,D b->b < w.heap.size) :
    Calls Tryz.prog 220 #[.int .u8 b,.pointer (some ⟨cn,0,none⟩),.pointer (some ⟨cs,0,none⟩),.pointer (some ⟨ct,0,none⟩)] w (z0v w R vd P D (if left=1 then z1W k (n*2+b) m else { m with nx := .num (left - 1) (n*2+b) k })):=by
 obtain⟨fi,ca,rfl,hA⟩:=h4
 have hpw:n < 4294967296:=by
  have:(2:Nat)^(32 - left)<=2^32:=Nat.pow_le_pow_right (by omega) (by omega)
  omega
 have hpw1:n*2+b < 2^(33 - left):=by
  have:(2:Nat)^(33 - left)=2^(32 - left)*2:=by rw[<- Nat.pow_succ];congr 1;omega
  omega
 have hnc:cn≠cs:=Blk.ne h1 h2 (by decide)
 have hnt:cn≠ct:=fun e=>h6.1 (e ▸ h3.1)
 have hst:cs≠ct:=fun e=>h6.2 (e ▸ h3.1)
 have k1:Kp (fun b=>b=cn\/b=cs) w ((w.setCell ⟨cn,0,none⟩ (.int .u64 ((n*2+b:Nat):Int))).setCell ⟨cs,0,none⟩ (.int .i64 ((left:Int) - 1))):=(Kp.set (F:=fun b=>b=cn\/b=cs) (.inl rfl)).tr (Kp.set (F:=fun b=>b=cn\/b=cs) (.inr rfl)) (fun _ e => .inl e)
 have hT:∀b,Tm R vd b->¬(b=cn\/b=cs):=by
  rintro b hb (e | e)
  ·exact h.var h1 (by decide) (by decide) (e ▸ hb)
  ·exact h.var h2 (by decide) (by decide) (e ▸ hb)
 have hPn:∀b,P b->¬(b=cn\/b=cs):=by
  rintro b hb (e | e)
  ·exact h6.1 (e ▸ hb)
  ·exact h6.2 (e ▸ hb)
 have ms1:=h.keep k1 hT hPn
 have sm1:=k1.sm hPn
 have hB1:z0i ((w.setCell ⟨cn,0,none⟩ (.int .u64 ((n*2+b:Nat):Int))).setCell ⟨cs,0,none⟩ (.int .i64 ((left:Int) - 1))):=hB.keep k1 (by rintro(e | e);exact(h1.noTab hB).1 e.symm;exact(h2.noTab hB).1 e.symm) (by rintro(e | e);exact(h1.noTab hB).2 e.symm;exact(h2.noTab hB).2 e.symm)
 have sf:StF w R vd P D m vn vd P ((w.setCell ⟨cn,0,none⟩ (.int .u64 ((n*2+b:Nat):Int))).setCell ⟨cs,0,none⟩ (.int .i64 ((left:Int) - 1))):=⟨ms1,k1.mono (by rintro _ _ (e | e);exact .inr (e ▸ h5.1);exact .inr (e ▸ h5.2)),fun _ e => .inl e,fun _ e => .inl e⟩
 have b3:=h3.keep sm1 (fun _ h=>h)
 have ka:=hA.keep sm1 (fun _ h=>h)
 have bn:Blk ((w.setCell ⟨cn,0,none⟩ (.int .u64 ((n*2+b:Nat):Int))).setCell ⟨cs,0,none⟩ (.int .i64 ((left:Int) - 1))) cn #[.int .u64 ((n*2+b:Nat):Int)] 73:=(h1.set 0 (.int .u64 ((n*2+b:Nat):Int))).other hnc _
 have bs:Blk ((w.setCell ⟨cn,0,none⟩ (.int .u64 ((n*2+b:Nat):Int))).setCell ⟨cs,0,none⟩ (.int .i64 ((left:Int) - 1))) cs #[.int .i64 ((left:Int) - 1)] 3:=(h2.other (Ne.symm hnc) _).set 0 _
 have ho:bits BinOp.or IntKind.u64 ((n:Int)*2) (b:Int)=((n*2+b:Nat):Int):=by
  have h1:=bits_or_u64_nat (n*2) b (by omega) (by omega)
  rw[Nat.mul_comm n 2,<- Nat.two_pow_add_eq_or_of_lt (i:=1) (by omega) n]at h1
  rw[<- Nat.mul_comm 2 n]
  simpa [Nat.mul_comm]using h1
 have c0:w.cell? ⟨cn,0,none⟩=some (.int .u64 (n:Nat)):=h1.cell 0
 have f0:=h1.frozen 0
 have c1:w.cell? ⟨cs,0,none⟩=some (.int .i64 (left:Nat)):=h2.cell 0
 have f1:=h2.frozen 0
 have c2:w.cell? ⟨ct,0,none⟩=some (.func (.func k.F) fi ca):=h3.2.cell 0
 have hcf:=k.enters
 have HO:=zH ho
 have SF:=zH sf
 have hl1:0 < (left:Int):=by omega
 have hl2:(left:Int)<=32:=by omega
 by_cases hq:left=1
 ·have qd:((left:Int) - 1==0)=true:=by rw[beq_iff_eq];omega
  rw[if_pos hq]
  have KN:=zH (zfn k R m vn vd P (n*2+b) _ _ _ _ ms1 hB1 ⟨fi,ca,rfl,ka⟩ (by rw[hq]at hpw1;omega) hbd.hs hbd.hl)
  generalize k.F=K at *
  clear h hB hbd h1 h2 h3 h5 h6 h7 hA k1 hT hPn ms1 sm1 hB1 sf b3 ka bn bs hq ho hpw1 hD
  go_enter Tryz.func220,Tryz.ntmps220
  go_wp2_with fail
  rw[HO.out]
  refine KN.out.mono ?_
  rintro e w4 h4
  have H4:=zH (z0v.behind SF.out h4)
  obtain⟨rfl,_⟩:=h4
  go_wp2
  go_end0
  exact H4.out
 ·have qd:((left:Int) - 1==0)=false:=by rw[beq_eq_false_iff_ne];omega
  rw[if_neg hq]
  have hfin:z0v w R vd P D { m with nx := .num (left - 1) (n*2+b) k } (.returned (.tuple #[])) ((w.setCell ⟨cn,0,none⟩ (.int .u64 ((n*2+b:Nat):Int))).setCell ⟨cs,0,none⟩ (.int .i64 ((left:Int) - 1))):=by
   refine⟨rfl,P,D,vd,vn,⟨⟨ms1.blk,ms1.own,ms1.nil,ms1.nP,ms1.lt⟩,sf.kp,sf.hP,sf.hT⟩,⟨cn,cs,ct,_,hvn,bn,?_,b3,⟨fi,ca,rfl,ka⟩,h5,h6,by omega,by omega,by rw[show 32 - (left - 1)=33 - left by omega];exact hpw1⟩,fun b hb=>⟨.inl hb,Nat.lt_of_lt_of_le (hD b hb) k1.size⟩⟩
   rw[show(((left - 1:Nat)):Int)=(left:Int) - 1 by omega]
   exact bs
  have HF:=zH hfin
  generalize k.F=K at *
  clear h hB hbd h1 h2 h3 h5 h6 h7 hA k1 hT hPn ms1 sm1 hB1 sf b3 ka bn bs hq ho hpw1 hD hfin
  go_enter Tryz.func220,Tryz.ntmps220
  go_wp2
  go_end0
  rw[HO.out]
  exact HF.out
theorem zcC{a:Option Addr}{cap k b o:Nat}{t:Option Nat}(h:z7K a cap k=some ⟨b,o,t⟩):∃o' t',a=some ⟨b,o',t'⟩:=by
 unfold z7K at h
 split at h
 ·exact⟨o,t,h⟩
 ·cases a with
  | none=>simp at h
  | some x =>
    obtain⟨xb,xo,xs⟩:=x
    rw[Option.map_some]at h
    unfold Addr.add at h
    split at h<;>(cases h;exact⟨_,_,rfl⟩)
theorem z8a (R:Nat) (m:PM) (vn vd:Value) (P D:Nat->Prop) (x:Nat) (r:List Nat) (k:K0) (cw cm ct:Nat) (vk:Value) (a:Option Addr) (c:Nat) (b:Nat) (w:World) (h:MS w R m vn vd P) (hB:z0i w) (hbd:Bd m)
    (hvn:vn = .func (.func 210) #[] #[.pointer (some ⟨cw,0,none⟩),.pointer (some ⟨cm,0,none⟩),.pointer (some ⟨ct,0,none⟩)])
    (h1:Blk w cw #[.slice a (x::r).length c] 35) (h2:z48 w P R cm) (h3:Box w P ct vk 1) (h4:K0V w P R k vk) (h5:D cw) (h6:¬P cw) (h7:Bs w a c (x::r)) (h8:∀b o t,a=some ⟨b,o,t⟩->P b) (hD:∀b,D b->b < w.heap.size) :
    Calls Tryz.prog 210 #[.int .u8 b,.pointer (some ⟨cw,0,none⟩),.pointer (some ⟨cm,0,none⟩),.pointer (some ⟨ct,0,none⟩)] w (z0v w R vd P D (m.mustGo (x::r) k b)):=by
 obtain⟨fi,ca,rfl,hA⟩:=h4
 obtain⟨g,o,rfl,hc⟩:=h7.hcells (by simp)
 have cx:w.cell? ⟨g,o,none⟩=some (.int .u8 x):=hc 0 (by simp)
 have hcap:r.length+1<=c:=by simpa using h7.hcap
 have hmx:c<=9223372036854775807:=by have:=h7.hmax;unfold maxLen at this;exact this
 have c0:w.cell? ⟨cw,0,none⟩=some (.slice (some ⟨g,o,none⟩) (r.length+1) c):=h1.cell 0
 have f0:=h1.frozen 0
 have c1:w.cell? ⟨cm,0,none⟩=some (.pointer (some ⟨R,0,none⟩)):=h2.2.cell 0
 have c2:w.cell? ⟨ct,0,none⟩=some (.func (.func k.F) fi ca):=h3.2.cell 0
 have hcut:∀w':World,(Instr.sliceAt 35 (.slice (some ⟨g,o,none⟩) (r.length+1) c) (some (.int .i64 1)) none none).run Tryz.prog w' = .ok (.slice (z7K (some ⟨g,o,none⟩) c 1) (r.length+1 - 1) (c - 1)) w':=fun w'=>z38 (some ⟨g,o,none⟩) (r.length+1) c 1 (by omega) w'
 rw[Nat.add_sub_cancel]at hcut
 have hcf:=k.enters
 by_cases hq:b=x
 ·have qd:((b:Int) != (x:Int))=false:=by rw[bne_eq_false_iff_eq];omega
  have k1:Kp (fun b=>b=cw) w (w.setCell ⟨cw,0,none⟩ (.slice (z7K (some ⟨g,o,none⟩) c 1) r.length (c - 1))):=Kp.set (F:=fun b=>b=cw) rfl
  have hT:∀b,Tm R vd b->¬b=cw:=fun b hb e=>h.var h1 (by decide) (by decide) (e ▸ hb)
  have hPn:∀b,P b->¬b=cw:=fun b hb e=>h6 (e ▸ hb)
  have ms1:=h.keep k1 hT hPn
  have sm1:=k1.sm hPn
  have hB1:z0i (w.setCell ⟨cw,0,none⟩ (.slice (z7K (some ⟨g,o,none⟩) c 1) r.length (c - 1))):=hB.keep k1 (fun e=>(h1.noTab hB).1 e.symm) (fun e=>(h1.noTab hB).2 e.symm)
  have sf:StF w R vd P D m vn vd P (w.setCell ⟨cw,0,none⟩ (.slice (z7K (some ⟨g,o,none⟩) c 1) r.length (c - 1))):=⟨ms1,k1.mono (by rintro _ _ rfl;exact .inr h5),fun _ e => .inl e,fun _ e => .inl e⟩
  have SF:=zH sf
  have hct:cw≠ct:=fun e=>h6 (e ▸ h3.1)
  have hcm:cw≠cm:=fun e=>h6 (e ▸ h2.1)
  by_cases hr:r=[]
  ·subst hr
   have eE:m.mustGo [x] k b=z1f k m:=by simp[PM.mustGo,hq]
   rw[eE]
   have KN:=zH (z3z k R m vn vd P _ _ _ _ ms1 hB1 ⟨fi,ca,rfl,(hA.1.keep sm1 (fun _ h=>h)),hA.2⟩ hbd.hs)
   simp only[List.length_nil,Nat.zero_add]at c0 hcut KN SF hcap
   generalize k.F=K at *
   clear h hB hbd h1 h2 h3 h5 h6 h7 h8 hA k1 hT hPn ms1 sm1 hB1 sf hc hq eE hD
   go_enter Tryz.func210,Tryz.ntmps210
   go_wp2_with fail
   refine KN.out.mono ?_
   rintro e w4 h4
   have H4:=zH (z0v.behind SF.out h4)
   obtain⟨rfl,_⟩:=h4
   go_wp2
   go_end0
   exact H4.out
  ·have hlen:0 < r.length:=List.length_pos_iff.2 hr
   have qz:((r.length:Int)==0)=false:=by rw[beq_eq_false_iff_ne];omega
   have eE:m.mustGo (x::r) k b={ m with nx := .must r k }:=by simp[PM.mustGo,hq,hr]
   rw[eE]
   have hfin:z0v w R vd P D { m with nx := .must r k } (.returned (.tuple #[])) (w.setCell ⟨cw,0,none⟩ (.slice (z7K (some ⟨g,o,none⟩) c 1) r.length (c - 1))):=by
    refine⟨rfl,P,D,vd,vn,⟨⟨ms1.blk,ms1.own,ms1.nil,ms1.nP,ms1.lt⟩,sf.kp,sf.hP,sf.hT⟩,⟨cw,cm,ct,_,_,_,hvn,h1.set 0 _,h2.keep sm1 (fun _ h=>h),h3.keep sm1 (fun _ h=>h),⟨fi,ca,rfl,hA.1.keep sm1 (fun _ h=>h),hA.2⟩,h5,h6,⟨(h7.cutL 1 (by simp)).sm sm1 ?_,?_⟩,hr⟩,fun b hb=>⟨.inl hb,Nat.lt_of_lt_of_le (hD b hb) k1.size⟩⟩
    all_goals
     intro b' o' t' e
     obtain⟨o2,t2,e2⟩:=zcC e
     exact h8 b' o2 t2 e2
   have HF:=zH hfin
   generalize k.F=K at *
   clear h hB hbd h1 h2 h3 h5 h6 h7 h8 hA k1 hT hPn ms1 sm1 hB1 sf hc hq eE hD hr hfin
   go_enter Tryz.func210,Tryz.ntmps210
   go_wp2
   go_end0
   exact HF.out
 ·have qd:((b:Int) != (x:Int))=true:=by rw[bne_iff_ne];omega
  have eE:m.mustGo (x::r) k b=m.bad 5:=by simp[PM.mustGo,hq]
  rw[eE]
  have KN:=zH (z3x R m vn vd P 5 w h)
  have SF:=zH (h.st.toF D)
  generalize k.F=K at *
  clear h hB hbd h1 h2 h3 h5 h6 h7 h8 hA hc hq eE hD
  go_enter Tryz.func210,Tryz.ntmps210
  go_wp2_with fail
  refine KN.out.mono ?_
  rintro e w4 h4
  have H4:=zH (z0v.behind SF.out h4)
  obtain⟨rfl,_⟩:=h4
  go_wp2
  go_end0
  exact H4.out
theorem z0v.trS{vn1 vd1:Value}{D1 D0:Nat->Prop}{m1:PM}(h:St w0 R vd0 P0 m1 vn1 vd1 P1 w1)(hD:∀b,D1 b->w0.heap.size<=b)(k:z0v w1 R vd1 P1 D1 m' e w'):z0v w0 R vd0 P0 D0 m' e w':=by
 obtain⟨rfl,P',D',vd',vn',h1,h2,h3⟩:=k
 refine⟨rfl,P',D',vd',vn',⟨h1.ms,?_,fun b hb => ?_,fun b hb => ?_⟩,h2,fun b hb=>⟨.inr ?_,(h3 b hb).2⟩⟩
 ·refine(h.kp.tr h1.kp (fun b e => ?_)).mono (fun _ _ e => .inl e)
  rcases e with e | e
  ·exact h.hT b e
  ·exact .inr (hD b e)
 ·rcases h1.hP b hb with e | e | e
  ·exact h.hP b e
  ·rcases h.hT b e with e | e
   ·exact .inr (.inl e)
   ·exact .inr (.inr e)
  ·exact .inr (.inr (Nat.le_trans h.kp.size e))
 ·rcases h1.hT b hb with e | e
  ·exact h.hT b e
  ·exact .inr (Nat.le_trans h.kp.size e)
 ·rcases(h3 b hb).1 with e | e
  ·exact hD b e
  ·exact Nat.le_trans h.kp.size e
theorem z9V (R:Nat) (m:PM) (vn vd:Value) (P D:Nat->Prop) (b:Nat) (w:World) (h:MS w R m vn vd P) (hB:z0i w) (hbd:Bd m) :
    Calls Tryz.prog 257 #[.pointer (some ⟨R,0,none⟩),.int .u8 b] w (z0v w R vd P D (if m.wrong then m.bad 6 else m.mustGo [1,1,1,1,1,1,1] .done b)):=by
 obtain⟨vi,vR,vP,hb,_⟩:=h.blk
 have c30:w.cell? ⟨R,30,none⟩=some (.bool m.wrong):=hb.cell 30
 cases hw:m.wrong with
 | true =>
   rw[hw]at c30
   rw[if_pos rfl]
   have KN:=zH (z3x R m vn vd P 6 w h)
   have SF:=zH (h.st.toF D)
   clear h hb hw hB hbd
   go_enter Tryz.func257,Tryz.ntmps257
   go_wp2_with fail
   refine KN.out.mono ?_
   rintro e w4 h4
   have H4:=zH (z0v.behind SF.out h4)
   obtain⟨rfl,_⟩:=h4
   go_wp2
   go_end0
   exact H4.out
 | false =>
   rw[hw]at c30
   rw[if_neg (by simp)]
   obtain⟨s9,b9,d9⟩:=h.st.bytes [1,1,1,1,1,1,1] #[.int .u8 1,.int .u8 1,.int .u8 1,.int .u8 1,.int .u8 1,.int .u8 1,.int .u8 1] rfl 7 rfl (by simp) (by simp)
   have KN:=zH (z2t R m vn vd _ .done _ _ _ _ 7 [1,1,1,1,1,1,1] _ s9.ms ⟨_,_,rfl,⟨rfl,rfl⟩,trivial⟩ b9 d9 (by simp))
   have S9:=zH s9
   have HM:=zH h
   have HB:=zH hB
   have HBD:=zH hbd
   have hcf:∀args w,(callFunc 210 args).run Tryz.prog w = .ok (.enter 210 args) w:=hcf _ _ Tryz.func210 (by rfl) (by decide +kernel)
   clear h hb hw s9 b9 d9 hB hbd
   go_enter Tryz.func257,Tryz.ntmps257
   go_wp2_with fail
   refine KN.out.mono ?_
   rintro e w1 ⟨rfl,P1,D1,vd1,vn1,t1,x1,y1⟩
   have t2:=S9.out.tr t1
   obtain⟨cw,cm,ct,vk,a,c,e1,q1,q2,q3,q4,q5,q6,q7,_⟩:=x1
   subst e1
   have hsz:=S9.out.kp.size
   have hD1:∀b,D1 b->w.heap.size<=b:=by
    intro b hb
    rcases(y1 b hb).1 with e | e
    ·exact e.elim
    ·exact Nat.le_trans hsz e
   have hbd1:Bd (m.must [1,1,1,1,1,1,1] .done):=⟨HBD.out.hs,HBD.out.hl⟩
   obtain⟨vi1,vR1,vP1,hb1,_⟩:=t2.ms.blk
   have c29:w1.cell? ⟨R,29,none⟩=some (.func (.func 210) #[] #[.pointer (some ⟨cw,0,none⟩),.pointer (some ⟨cm,0,none⟩),.pointer (some ⟨ct,0,none⟩)]):=hb1.cell 29
   have K2:=zH (z8a R (m.must [1,1,1,1,1,1,1] .done) _ vd1 P1 D1 1 [1,1,1,1,1,1] .done cw cm ct vk a c b w1 t2.ms (t2.both HM.out HB.out) hbd1 rfl q1 q2 q3 q4 q5 q6 q7.1 q7.2 (fun b hb=>(y1 b hb).2))
   have T2:=zH t2
   have HD1:=zH hD1
   clear t1 t2 y1 q1 q2 q3 q4 q5 q6 q7 hb1 hD1 hbd1 hsz
   go_wp2_with fail
   refine K2.out.mono ?_
   rintro e w4 h4
   have H4:=zH (z0v.trS (D0:=D) T2.out HD1.out h4)
   obtain⟨rfl,_⟩:=h4
   go_wp2
   go_end0
   exact H4.out
theorem NxV.shape(h:NxV w P R D x v)(hn:x ≠ .none):∃K fi ca,v = .func (.func K) fi ca/\∀args w,(callFunc K args).run Tryz.prog w = .ok (.enter K args) w:=by
 cases x with
 | none=>exact absurd rfl hn
 | num left n k =>
   obtain⟨cn,cs,ct,vk,h1,_⟩:=h
   exact⟨_,_,_,h1,hcf _ _ Tryz.func220 (by rfl) (by decide +kernel)⟩
 | must want k =>
   obtain⟨cw,cm,ct,vk,a,c,h1,_⟩:=h
   exact⟨_,_,_,h1,hcf _ _ Tryz.func210 (by rfl) (by decide +kernel)⟩
 | slot=>exact⟨_,_,_,h,hcf _ _ Tryz.func249 (by rfl) (by decide +kernel)⟩
 | behind=>exact⟨_,_,_,h,hcf _ _ Tryz.func257 (by rfl) (by decide +kernel)⟩
theorem NxV.shrink(h:NxV w P R D x v)(hm:MS w R m vn vd P):∃D2:Nat->Prop,NxV w P R D2 x v/\(∀b,D2 b->¬Tm R vd b)/\(∀b,D2 b->¬P b)/\(x ≠ .none->∀b,D2 b->D b)/\(x = .none->∀b,¬D2 b)/\(z0i w->∀b,D2 b->b≠1/\b≠0)/\∀b,D2 b->b < w.heap.size:=by
 cases x with
 | none=>exact⟨fun _=>False,trivial,by simp,by simp,by simp,by simp,by simp,by simp⟩
 | slot=>exact⟨fun _=>False,h,by simp,by simp,by simp,by simp,by simp,by simp⟩
 | behind=>exact⟨fun _=>False,h,by simp,by simp,by simp,by simp,by simp,by simp⟩
 | num left n k =>
   obtain⟨cn,cs,ct,vk,h1,h2,h3,h4,h5,h6,h7,h8⟩:=h
   refine⟨fun b=>b=cn\/b=cs,⟨cn,cs,ct,vk,h1,h2,h3,h4,h5,⟨.inl rfl,.inr rfl⟩,h7,h8⟩,?_,?_,?_,by simp,?_,?_⟩
   ·rintro b (rfl | rfl)
    ·exact hm.var h2 (by decide) (by decide)
    ·exact hm.var h3 (by decide) (by decide)
   ·rintro b (rfl | rfl)
    ·exact h7.1
    ·exact h7.2
   ·rintro _ b (rfl | rfl)
    ·exact h6.1
    ·exact h6.2
   ·rintro hb b (rfl | rfl)
    ·exact h2.noTab hb
    ·exact h3.noTab hb
   ·rintro b (rfl | rfl)
    ·exact h2.lt
    ·exact h3.lt
 | must want k =>
   obtain⟨cw,cm,ct,vk,a,c,h1,h2,h3,h4,h5,h6,h7,h8,h9⟩:=h
   refine⟨fun b=>b=cw,⟨cw,cm,ct,vk,a,c,h1,h2,h3,h4,h5,rfl,h7,h8,h9⟩,?_,?_,?_,by simp,?_,?_⟩
   ·rintro b rfl;exact hm.var h2 (by decide) (by decide)
   ·rintro b rfl;exact h7
   ·rintro _ b rfl;exact h6
   ·rintro hb b rfl;exact h2.noTab hb
   ·rintro b rfl;exact h2.lt
theorem z47 (R:Nat) (m:PM) (vd:Value) (P D:Nat->Prop) (b:Nat) (K:Nat) (fi ca:Array Value) (w:World) (h:MS w R m (.func (.func K) fi ca) vd P) (hB:z0i w) (hbd:Bd m) (hb:b<=1) (hx:NxV w P R D m.nx (.func (.func K) fi ca)) (hn:m.nx ≠ .none) (hD:∀b,D b->b < w.heap.size) :
    Calls Tryz.prog K (fi++#[.int .u8 b]++ca) w (z0v w R vd P D (m.next b)):=by
 unfold PM.next
 cases hq:m.nx with
 | none=>exact absurd hq hn
 | num left n k =>
   rw[hq]at hx
   obtain⟨cn,cs,ct,vk,h1,h2,h3,h4,h5,h6,h7,h8⟩:=hx
   cases h1
   exact zaj R m _ vd P D left n k cn cs ct vk b w h hB hbd hb rfl h2 h3 h4 h5 h6 h7 h8 hD
 | must want k =>
   rw[hq]at hx
   obtain⟨cw,cm,ct,vk,a,c,h1,h2,h3,h4,h5,h6,h7,h8,h9⟩:=hx
   cases h1
   cases want with
   | nil=>exact absurd rfl h9
   | cons x r=>exact z8a R m _ vd P D x r k cw cm ct vk a c b w h hB hbd rfl h2 h3 h4 h5 h6 h7 h8.1 h8.2 hD
 | slot =>
   rw[hq]at hx
   cases hx
   exact(zeQ R m _ vd P b w h).mono (fun e w' hg=>z0v.behind (h.st.toF D) hg)
 | behind =>
   rw[hq]at hx
   cases hx
   exact z9V R m _ vd P D b w h hB hbd
theorem z0v.after{vn1 vd1:Value}{m1:PM}(h:St w0 R vd0 P0 m1 vn1 vd1 P1 w1)(k:z0v w1 R vd1 P1 D m' e w'):z0v w0 R vd0 P0 D m' e w':=by
 obtain⟨rfl,P',D',vd',vn',h1,h2,h3⟩:=k
 refine⟨rfl,P',D',vd',vn',⟨h1.ms,?_,fun b hb => ?_,fun b hb => ?_⟩,h2,fun b hb=>⟨?_,(h3 b hb).2⟩⟩
 ·refine(h.kp.mono (F':=fun b=>Tm R vd0 b\/D b) (fun _ _ e => .inl e)).tr h1.kp (fun b e => ?_)
  rcases e with e | e
  ·rcases h.hT b e with e | e
   ·exact .inl (.inl e)
   ·exact .inr e
  ·exact .inl (.inr e)
 ·rcases h1.hP b hb with e | e | e
  ·exact h.hP b e
  ·rcases h.hT b e with e | e
   ·exact .inr (.inl e)
   ·exact .inr (.inr e)
  ·exact .inr (.inr (Nat.le_trans h.kp.size e))
 ·rcases h1.hT b hb with e | e
  ·exact h.hT b e
  ·exact .inr (Nat.le_trans h.kp.size e)
 ·rcases(h3 b hb).1 with e | e
  ·exact .inl e
  ·exact .inr (Nat.le_trans h.kp.size e)
theorem St.goesF(h:St w0 R vd0 P m vn vd P w)(hx:NxV w0 P R D x vn)(he:m.nx=x)(hP:∀b,P b->¬Tm R vd0 b)(hT:∀b,D b->¬Tm R vd0 b)(hD:∀b,D b->b < w0.heap.size):z0v w0 R vd0 P D m (.returned (.tuple #[])) w:=by
 refine⟨rfl,P,D,vd,vn,h.toF D,?_,fun b hb=>⟨.inl hb,Nat.lt_of_lt_of_le (hD b hb) h.kp.size⟩⟩
 rw[he]
 exact hx.keep (h.kp.sm hP) (h.kp.sm hT)
structure Bg(m:PM):Prop where
 bd:Bd m
 ha:m.alike<=100000
 hi:m.since<=100000
 hre:zfM m.re
 hoR:zky m.oR
 hoP:zky m.oP
 hlR:m.oR.length<=100000
 hlP:m.oP.length<=100000
theorem zf5 (R:Nat) (m:PM) (vn vd:Value) (P D:Nat->Prop) (b:Nat) (w:World) (h:MS w R m vn vd P) (hB:z0i w) (hbd:Bd m) (hb:b<=1) (hx:NxV w P R D m.nx vn) (hn:m.nx ≠ .none) (hD:∀b,D b->b < w.heap.size) :
    Calls Tryz.prog 242 #[.pointer (some ⟨R,0,none⟩),.int .u8 b] w (z0v w R vd P D (m.next b)):=by
 obtain⟨K,fi,ca,rfl,hcf⟩:=hx.shape hn
 obtain⟨vi,vR,vP,k1,_⟩:=h.blk
 have c29:w.cell? ⟨R,29,none⟩=some (.func (.func K) fi ca):=k1.cell 29
 have KN:=zH (z47 R m vd P D b K fi ca w h hB hbd hb hx hn hD)
 clear h hB hbd hb hx hn hD k1
 go_enter Tryz.func242,Tryz.ntmps242
 go_wp2_with fail
 refine KN.out.mono ?_
 rintro e w4 h4
 have H4:=zH h4
 obtain⟨rfl,_⟩:=h4
 go_wp2
 go_end0
 exact H4.out
theorem z8I (R:Nat) (m:PM) (vn vd:Value) (P D:Nat->Prop) (b:Nat) (w:World) (h:MS w R m vn vd P) (hB:z0i w) (hbg:Bg m) (hb:b<=1) (hx:NxV w P R D m.nx vn) (hn:m.nx ≠ .none) (hT:∀b,D b->¬Tm R vd b) (hD:∀b,D b->b < w.heap.size) (hr:m.raw = .stuffed) :
    Calls Tryz.prog 197 #[.pointer (some ⟨R,0,none⟩),.int .u8 b] w (z0v w R vd P D (m.step b)):=by
 obtain⟨vi,vR,vP,k1,_⟩:=h.blk
 have c17:w.cell? ⟨R,17,none⟩=some (.int .i64 m.alike):=k1.cell 17
 have c16:w.cell? ⟨R,16,none⟩=some (.int .u8 m.last):=k1.cell 16
 have eS:m.step b=if m.alike=5 then(if b=m.last then m.bad 4 else { m.add b with re:=zL m.re m.oR b,stuffs:=m.stuffs+1 })else PM.next { m.add b with re:=zL (zL m.re m.oR b) m.oP b } b:=by
  unfold PM.step
  rw[hr]
 rw[eS]
 have ADD:=zH (zfa R m vn vd P b w h hbg.ha)
 have FR:=zH (fun w1 vv (m1:PM) (s:St w R vd P m1 vn vd P w1) (hk:KsV w1 P vv m1.oR) (e1:m1.oR=m.oR) (e2:m1.re=m.re)=>z7q R m1 vn vd P vv m1.oR b w1 s.ms (s.both h hB) hk (by rw[e1];exact hbg.hoR) (by rw[e2];exact hbg.hre) hb (by rw[e1];exact hbg.hlR))
 have FP:=zH (fun w1 vv (m1:PM) (s:St w R vd P m1 vn vd P w1) (hk:KsV w1 P vv m1.oP) (e1:m1.oP=m.oP) (e2:m1.re=zL m.re m.oR b)=>z7q R m1 vn vd P vv m1.oP b w1 s.ms (s.both h hB) hk (by rw[e1];exact hbg.hoP) (by rw[e2];exact hbg.hre.feed b hbg.hoR) hb (by rw[e1];exact hbg.hlP))
 have H:=zH h
 have HB:=zH hB
 have HBG:=zH hbg
 have HX:=zH hx
 have HN:=zH hn
 have HT:=zH hT
 have HD:=zH hD
 clear hB hbg hx hn hT hD hr eS
 by_cases h5:m.alike=5
 ·have q5:((m.alike:Int)==5)=true:=by rw[beq_iff_eq];omega
  rw[if_pos h5]
  by_cases hq:b=m.last
  ·have q1:((b:Int)==(m.last:Int))=true:=by rw[beq_iff_eq];omega
   rw[if_pos hq]
   have KN:=zH (z3x R m vn vd P 4 w h)
   have SF:=zH (h.st.toF D)
   clear h k1 h5 hq
   go_enter Tryz.func197,Tryz.ntmps197
   go_wp2_with fail
   refine KN.out.mono ?_
   rintro e w4 h4
   have H4:=zH (z0v.behind SF.out h4)
   obtain⟨rfl,_⟩:=h4
   go_wp2
   go_end0
   exact H4.out
  ·have q1:((b:Int)==(m.last:Int))=false:=by rw[beq_eq_false_iff_ne];omega
   rw[if_neg hq]
   clear h k1 h5 hq
   go_enter Tryz.func197,Tryz.ntmps197
   go_wp2_with fail
   refine ADD.out.mono ?_
   rintro e w1 ⟨rfl,s1⟩
   have S1:=zH (s1.nb (show Nb _ (World.drew _)from Nb.drewN _ 1))
   obtain⟨vi1,vR1,vP1,k1,_,r1,p1⟩:=s1.ms.blk
   have c27:w1.cell? ⟨R,27,none⟩=some vR1:=k1.cell 27
   have F1:=zH (FR.out w1.drew vR1 (m.add b) S1.out (r1.keep (Sm.nb (Nb.drewN w1 1)) (fun _ h=>h)) rfl rfl)
   clear s1 k1 r1 p1
   go_wp2
   go_region_with (
    (go_at_call 209
     refine F1.out.mono ?_
     rintro e w2 ⟨rfl,s2⟩
     have S2:=zH (S1.out.tr s2)
     clear s2))
   all_goals
    obtain⟨vi2,vR2,vP2,k2,_⟩:=S2.out.ms.blk
    have c18:w2.cell? ⟨R,18,none⟩=some (.int .i64 m.stuffs):=k2.cell 18
    have f18:=k2.frozen 18
    have hs1:(m.stuffs:Int)<=100000:=by have:=HBG.out.bd.hs;omega
    have s3:=S2.out.put { m.add b with re:=zL m.re m.oR b,stuffs:=m.stuffs+1 } vn 18 (.int .i64 ((m.stuffs:Int)+1)) (fun _ _ _=>rfl) rfl rfl rfl rfl
    have HF:=zH (s3.goesF HX.out rfl (fun b hb=>H.out.nP b hb) HT.out HD.out)
    clear s3 k2
    go_wp2
    go_end0
    exact HF.out
 ·have q5:((m.alike:Int)==5)=false:=by rw[beq_eq_false_iff_ne];omega
  rw[if_neg h5]
  obtain⟨K,fi,ca,rfl,hcf⟩:=HX.out.shape HN.out
  clear h k1 h5
  go_enter Tryz.func197,Tryz.ntmps197
  go_wp2_with fail
  refine ADD.out.mono ?_
  rintro e w1 ⟨rfl,s1⟩
  have S1:=zH (s1.nb (show Nb _ (World.drew _)from Nb.drewN _ 1))
  obtain⟨vi1,vR1,vP1,k1,_,r1,p1⟩:=s1.ms.blk
  have c27:w1.cell? ⟨R,27,none⟩=some vR1:=k1.cell 27
  have F1:=zH (FR.out w1.drew vR1 (m.add b) S1.out (r1.keep (Sm.nb (Nb.drewN w1 1)) (fun _ h=>h)) rfl rfl)
  clear s1 k1 r1 p1
  go_wp2
  go_region_with (
   (go_at_call 209
    refine F1.out.mono ?_
    rintro e w2 ⟨rfl,s2⟩
    have S2:=zH (S1.out.tr s2)
    clear s2))
  all_goals
   have S2':=zH (S2.out.nb (show Nb _ (World.drew _)from Nb.drewN _ 1))
   obtain⟨vi2,vR2,vP2,k2,_,r2,p2⟩:=S2.out.ms.blk
   have c28:w2.cell? ⟨R,28,none⟩=some vP2:=k2.cell 28
   have F2:=zH (FP.out w2.drew vP2 _ S2'.out (p2.keep (Sm.nb (Nb.drewN w2 1)) (fun _ h=>h)) rfl rfl)
   clear k2 r2 p2 c27
   go_wp2
   go_region_with (
    (go_at_call 209
     refine F2.out.mono ?_
     rintro e w3 ⟨rfl,s3⟩
     have S3:=zH (S2'.out.tr s3)
     clear s3))
   all_goals
    obtain⟨vi3,vR3,vP3,k3,_⟩:=S3.out.ms.blk
    have c29:w3.cell? ⟨R,29,none⟩=some (.func (.func K) fi ca):=k3.cell 29
    have KN:=zH (z47 R _ vd P D b K fi ca w3 S3.out.ms (S3.out.both H.out HB.out) ⟨HBG.out.bd.hs,HBG.out.bd.hl⟩ hb (HX.out.keep (S3.out.kp.sm (fun b hb=>H.out.nP b hb)) (S3.out.kp.sm HT.out)) HN.out (fun b hb=>Nat.lt_of_lt_of_le (HD.out b hb) S3.out.kp.size))
    clear k3 c28
    go_wp2_with fail
    refine KN.out.mono ?_
    rintro e w4 h4
    have H4:=zH (z0v.after S3.out h4)
    obtain⟨rfl,_⟩:=h4
    go_wp2
    go_end0
    exact H4.out
theorem Bg.begin{m:PM}(h:Bg m):Bg m.begin:=by
 refine⟨⟨h.bd.hs,h.bd.hl⟩,h.ha,h.hi,?_,?_,?_,?_,?_⟩
 ·intro k h1 h2
  show z3j m.re k < _
  unfold z3j
  rw[if_pos ⟨h1,h2⟩]
  exact(z1C (k:Nat) (ze7 ⟨h1,h2⟩)).start
 ·intro k hk
  have:k=2\/k=3:=by simpa [PM.begin,PM.must]using hk
  omega
 ·intro k hk
  have:k=1\/k=4:=by simpa [PM.begin,PM.must]using hk
  omega
 ·show 2<=100000;omega
 ·show 2<=100000;omega
theorem zac (R:Nat) (m:PM) (vn vd:Value) (P D:Nat->Prop) (b:Nat) (w:World) (h:MS w R m vn vd P) (hB:z0i w) (hbg:Bg m) (hb:b<=1) (hx:NxV w P R D m.nx vn) (hn:m.nx ≠ .none) (hT:∀b,D b->¬Tm R vd b) (hD:∀b,D b->b < w.heap.size) (hr:m.raw = .spaced) :
    Calls Tryz.prog 251 #[.pointer (some ⟨R,0,none⟩),.int .u8 b] w (z0v w R vd P D (m.step b)):=by
 obtain⟨vi,vR,vP,k1,_⟩:=h.blk
 have hRl:=h.ltR
 have c19:w.cell? ⟨R,19,none⟩=some (.int .i64 m.every):=k1.cell 19
 have c20:w.cell? ⟨R,20,none⟩=some (.int .i64 m.since):=k1.cell 20
 have c16:w.cell? ⟨R,16,none⟩=some (.int .u8 m.last):=k1.cell 16
 have eS:m.step b=if m.since=m.every then(if b=m.last then m.bad 4 else { m.add b with since:=0 })else PM.next { m.add b with since:=m.since+1,re:=zL m.re m.oP b } b:=by
  unfold PM.step
  rw[hr]
 rw[eS]
 have hnb:Nb w w.drew:=Nb.drewN w 1
 have hd:MS w.drew R m vn vd P:=h.nb hnb
 have ADD:=zH (zfa R m vn vd P b w.drew hd hbg.ha)
 have SD:=zH (h.st.nb hnb)
 have FP:=zH (fun w1 vv (m1:PM) (s:St w R vd P m1 vn vd P w1) (hk:KsV w1 P vv m1.oP) (e1:m1.oP=m.oP) (e2:m1.re=m.re)=>z7q R m1 vn vd P vv m1.oP b w1 s.ms (s.both h hB) hk (by rw[e1];exact hbg.hoP) (by rw[e2];exact hbg.hre) hb (by rw[e1];exact hbg.hlP))
 have H:=zH h
 have HB:=zH hB
 have HBG:=zH hbg
 have HX:=zH hx
 have HN:=zH hn
 have HT:=zH hT
 have HD:=zH hD
 have KN:=zH (z3x R m vn vd P 4 w.drew hd)
 clear hB hbg hx hn hT hD hr eS k1
 by_cases h5:m.since=m.every
 ·have q5:((m.since:Int)==(m.every:Int))=true:=by rw[beq_iff_eq];omega
  rw[if_pos h5]
  by_cases hq:b=m.last
  ·have q1:((b:Int)==(m.last:Int))=true:=by rw[beq_iff_eq];omega
   rw[if_pos hq]
   clear h h5 hq hd hnb
   go_enter Tryz.func251,Tryz.ntmps251
   go_wp2
   go_region
   all_goals go_wp2_with fail
   all_goals
    refine KN.out.mono ?_
    rintro e w4 h4
    have H4:=zH (z0v.behind (SD.out.toF D) h4)
    obtain⟨rfl,_⟩:=h4
    go_wp2
    go_end0
    exact H4.out
  ·have q1:((b:Int)==(m.last:Int))=false:=by rw[beq_eq_false_iff_ne];omega
   rw[if_neg hq]
   clear h h5 hq hd hnb
   go_enter Tryz.func251,Tryz.ntmps251
   go_wp2
   go_region
   all_goals go_wp2_with fail
   all_goals
    refine ADD.out.mono ?_
    rintro e w1 ⟨rfl,s1⟩
    have S1:=zH (SD.out.tr s1)
    obtain⟨vi1,vR1,vP1,k1,_⟩:=s1.ms.blk
    have c20':w1.cell? ⟨R,20,none⟩=some (.int .i64 m.since):=k1.cell 20
    have f20:=k1.frozen 20
    have s3:=S1.out.put { m.add b with since:=0 } vn 20 (.int .i64 0) (fun _ _ _=>rfl) rfl rfl rfl rfl
    have HF:=zH (s3.goesF HX.out rfl (fun b hb=>H.out.nP b hb) HT.out HD.out)
    clear s1 s3 k1
    go_wp2
    go_end0
    exact HF.out
 ·have q5:((m.since:Int)==(m.every:Int))=false:=by rw[beq_eq_false_iff_ne];omega
  rw[if_neg h5]
  obtain⟨K,fi,ca,rfl,hcf⟩:=HX.out.shape HN.out
  clear h h5 hd hnb
  go_enter Tryz.func251,Tryz.ntmps251
  go_wp2
  go_region
  all_goals go_wp2_with fail
  all_goals
   refine ADD.out.mono ?_
   rintro e w1 ⟨rfl,s1⟩
   have S1:=zH (SD.out.tr s1)
   obtain⟨vi1,vR1,vP1,k1,_⟩:=s1.ms.blk
   have hR1:=s1.ms.ltR
   have c20':w1.cell? ⟨R,20,none⟩=some (.int .i64 m.since):=k1.cell 20
   have f20:=k1.frozen 20
   have hi1:(m.since:Int)<=100000:=by have:=HBG.out.hi;omega
   have S2:=zH (S1.out.put { m.add b with since:=m.since+1 } (.func (.func K) fi ca) 20 (.int .i64 ((m.since:Int)+1)) (fun _ _ _=>rfl) rfl rfl rfl rfl)
   clear s1 k1
   go_wp2
   generalize w1.setCell ⟨R,20,none⟩ (.int .i64 ((m.since:Int)+1))=w2 at *
   clear c20' f20
   have S2':=zH (S2.out.nb (show Nb _ (World.drew _)from Nb.drewN _ 1))
   obtain⟨vi2,vR2,vP2,k2,_,r2,p2⟩:=S2.out.ms.blk
   have hR2:=S2.out.ms.ltR
   have c28:w2.cell? ⟨R,28,none⟩=some vP2:=k2.cell 28
   have F2:=zH (FP.out w2.drew vP2 _ S2'.out (p2.keep (Sm.nb (Nb.drewN w2 1)) (fun _ h=>h)) rfl rfl)
   clear k2 r2 p2
   go_region_with (
    (go_at_call 209
     refine F2.out.mono ?_
     rintro e w3 ⟨rfl,s3⟩
     have S3:=zH (S2'.out.tr s3)
     clear s3))
   all_goals
    obtain⟨vi3,vR3,vP3,k3,_⟩:=S3.out.ms.blk
    have c29:w3.cell? ⟨R,29,none⟩=some (.func (.func K) fi ca):=k3.cell 29
    have KN:=zH (z47 R _ vd P D b K fi ca w3 S3.out.ms (S3.out.both H.out HB.out) ⟨HBG.out.bd.hs,HBG.out.bd.hl⟩ hb (HX.out.keep (S3.out.kp.sm (fun b hb=>H.out.nP b hb)) (S3.out.kp.sm HT.out)) HN.out (fun b hb=>Nat.lt_of_lt_of_le (HD.out b hb) S3.out.kp.size))
    clear k3 c28
    go_wp2_with fail
    refine KN.out.mono ?_
    rintro e w4 h4
    have H4:=zH (z0v.after S3.out h4)
    obtain⟨rfl,_⟩:=h4
    go_wp2
    go_end0
    exact H4.out
theorem zcZ(R b:Nat)(w:World):Calls Tryz.prog 222 #[.pointer (some ⟨R,0,none⟩),.int .u8 b] w fun e w'=>e = .returned (.tuple #[])/\w=w':=by
 go_enter Tryz.func222,Tryz.ntmps222
 go_wp2
 go_end0
 exact⟨rfl,rfl⟩
theorem zbS (R:Nat) (m:PM) (vn vd:Value) (P:Nat->Prop) (w:World) (h:MS w R m vn vd P) (hB:z0i w) :
    Calls Tryz.prog 182 #[.pointer (some ⟨R,0,none⟩)] w (z1z w R vd P m.begin):=by
 obtain⟨vi,vR,vP,k1,_⟩:=h.blk
 have c15:w.cell? ⟨R,15,none⟩=some (zib R m.raw):=k1.cell 15
 have f15:=k1.frozen 15
 obtain⟨m2,e2⟩:∃m2:PM,m2={ m with raw := .stuffed }:=⟨_,rfl⟩
 have s2:=h.st.put m2 vn 15 (.func (.func 197) #[.pointer (some ⟨R,0,none⟩)] #[]) (fun _ _ _=>by rw[e2];rfl) (by rw[e2]) (by rw[e2]) (by rw[e2]) (by rw[e2])
 have ST:=zH (zdv R m2 vn vd P _ s2.ms (s2.both h hB))
 have S2:=zH s2
 have E2:=zH e2
 clear s2 k1 e2 h hB
 go_enter Tryz.func182,Tryz.ntmps182
 go_wp2_with fail
 refine ST.out.mono ?_
 rintro e w1 ⟨rfl,s1⟩
 have s3:=S2.out.tr s1
 obtain⟨m3,e3⟩:∃m3:PM,m3={ m2 with re:=z3j m2.re }:=⟨_,rfl⟩
 rw[<- e3]at s3
 obtain⟨s4,k4⟩:=s3.kinds [2,3] #[.int .i64 2,.int .i64 3] rfl 2 rfl
 obtain⟨vi4,vR4,vP4,b4,_⟩:=s4.ms.blk
 have c27:(w1.alloc (.cells #[.int .i64 2,.int .i64 3] 3)).cell? ⟨R,27,none⟩=some vR4:=b4.cell 27
 have f27:=b4.frozen 27
 have s5:=s4.putR k4
 obtain⟨m5,e5⟩:∃m5:PM,m5={ m3 with oR:=[2,3] }:=⟨_,rfl⟩
 rw[<- e5]at s5
 have S5:=zH s5
 have E5:=zH (e5.trans (by rw[e3,E2.out]:_={ m with raw := .stuffed,re:=z3j m.re,oR:=[2,3] }))
 clear s1 s3 s4 k4 b4 s5 e3 e5
 obtain⟨s6,k6⟩:=S5.out.kinds [1,4] #[.int .i64 1,.int .i64 4] rfl 2 rfl
 obtain⟨vi6,vR6,vP6,b6,_⟩:=s6.ms.blk
 have c28:_=some vP6:=b6.cell 28
 have f28:=b6.frozen 28
 have s7:=s6.putP k6
 obtain⟨m7,e7⟩:∃m7:PM,m7={ m5 with oP:=[1,4] }:=⟨_,rfl⟩
 rw[<- e7]at s7
 obtain⟨s8,b8,d8⟩:=s7.bytes [0] #[.int .u8 0] rfl 1 rfl (by simp) (by simp)
 have kn:=z2t R m7 vn vd _ .top _ _ _ _ 1 [0] _ s8.ms ⟨_,_,rfl,⟨rfl,rfl⟩,trivial⟩ b8 d8 (by simp)
 have EE:=zH (show m.begin=m7.must [0] .top by rw[e7,E5.out];rfl)
 simp only[World.size_setCell,World.size_alloc]at kn s8 c28 f28
 have KN:=zH kn
 have S8:=zH s8
 clear s6 k6 b6 s7 e7 s8 b8 d8 kn
 go_wp2_with fail
 refine KN.out.mono ?_
 rintro e w4 ⟨rfl,h4⟩
 have H4:=zH (zZ.from S8.out h4)
 clear h4
 go_wp2
 go_end0
 exact⟨rfl,by rw[EE.out];exact H4.out⟩
theorem z7s(h:m.isNil=false)(b:Nat):m.take b=PM.step { m with seen:=m.seen+1 } b:=by
 unfold PM.take
 rw[h]
 rfl
theorem zhz(h:m.isNil=true)(b:Nat):m.take b=PM.step { m.begin with seen:=m.begin.seen+1 } b:=by
 unfold PM.take
 rw[h]
 rfl
theorem zaZ (R:Nat) (m:PM) (vn vd:Value) (P D:Nat->Prop) (b:Nat) (w:World) (h:MS w R m vn vd P) (hB:z0i w) (hbg:Bg m) (hb:b<=1) (hx:NxV w P R D m.nx vn) (hn:m.nx ≠ .none) (hT:∀b,D b->¬Tm R vd b) (hD:∀b,D b->b < w.heap.size) :
    (m.raw = .stuffed->Calls Tryz.prog 197 #[.pointer (some ⟨R,0,none⟩),.int .u8 b] w (z0v w R vd P D (m.step b))) /\
    (m.raw = .spaced->Calls Tryz.prog 251 #[.pointer (some ⟨R,0,none⟩),.int .u8 b] w (z0v w R vd P D (m.step b))) /\
    (m.raw = .bare->Calls Tryz.prog 242 #[.pointer (some ⟨R,0,none⟩),.int .u8 b] w (z0v w R vd P D (m.step b))):=by
 refine⟨fun e=>z8I R m vn vd P D b w h hB hbg hb hx hn hT hD e,fun e=>zac R m vn vd P D b w h hB hbg hb hx hn hT hD e,fun e => ?_⟩
 have:=zf5 R m vn vd P D b w h hB hbg.bd hb hx hn hD
 have eS:m.step b=m.next b:=by unfold PM.step;rw[e]
 rw[eS]
 exact this
theorem ziv(w:World):(binOp BinOp.eql 94 Value.nilFunc Value.nilFunc).run Tryz.prog w = .ok (.bool true) w:=by kernel_rfl
theorem zgc(F:Fn)(fi ca:Array Value)(w:World):(binOp BinOp.eql 94 (Value.func F fi ca) Value.nilFunc).run Tryz.prog w = .ok (.bool false) w:=by kernel_rfl
theorem zdm (R:Nat) (m:PM) (vn vd:Value) (P D:Nat->Prop) (b:Nat) (w:World) (h:MS w R m vn vd P) (hB:z0i w) (hbg:Bg m) (hb:b<=1) (hsn:m.seen<=100000) (hx:NxV w P R D m.nx vn) (hn:m.raw = .stuffed\/m.raw = .spaced\/m.raw = .bare->m.nx ≠ .none) (hT:∀b,D b->¬Tm R vd b) (hD:∀b,D b->b < w.heap.size) :
    Calls Tryz.prog 168 #[.pointer (some ⟨R,0,none⟩),.int .u8 b] w (z0v w R vd P D (m.take b)):=by
 have hnn:=ziv
 have hfn:=zgc
 obtain⟨vi,vR,vP,k1,_⟩:=h.blk
 have c15:w.cell? ⟨R,15,none⟩=some (zib R m.raw):=k1.cell 15
 have c1:w.cell? ⟨R,1,none⟩=some (.int .i64 m.seen):=k1.cell 1
 have f1:=k1.frozen 1
 have hs1:(m.seen:Int)<=100000:=by omega
 have s1:=h.st.put { m with seen:=m.seen+1 } vn 1 (.int .i64 ((m.seen:Int)+1)) (fun _ _ _=>rfl) rfl rfl rfl rfl
 have hx1:NxV (w.setCell ⟨R,1,none⟩ (.int .i64 ((m.seen:Int)+1))) P R D m.nx vn:=hx.keep (s1.kp.sm (fun b hb=>h.nP b hb)) (s1.kp.sm hT)
 have hD1:∀b,D b->b < (w.setCell ⟨R,1,none⟩ (.int .i64 ((m.seen:Int)+1))).heap.size:=fun b hb=>Nat.lt_of_lt_of_le (hD b hb) s1.kp.size
 have hbg1:Bg { m with seen:=m.seen+1 }:=⟨⟨hbg.bd.hs,hbg.bd.hl⟩,hbg.ha,hbg.hi,hbg.hre,hbg.hoR,hbg.hoP,hbg.hlR,hbg.hlP⟩
 have RW:=fun hne=>zaZ R { m with seen:=m.seen+1 } vn vd P D b _ s1.ms (s1.both h hB) hbg1 hb hx1 hne hT hD1
 cases hr:m.raw with
 | nil =>
   have eS:=zhz (m:=m) (by unfold PM.isNil;rw[hr]) b
   rw[eS]
   rw[hr]at c15
   have c15':w.cell? ⟨R,15,none⟩=some .nilFunc:=c15
   have BG:=zH (zbS R m vn vd P w h hB)
   have H:=zH h
   have HB:=zH hB
   have HBG:=zH hbg.begin
   clear s1 hx1 hD1 hbg1 RW h hB hbg hx hn hT hD k1 c1 f1 c15 eS hr
   go_enter Tryz.func168,Tryz.ntmps168
   go_wp2_with fail
   refine BG.out.mono ?_
   rintro e w1 ⟨rfl,P1,D1,vd1,vn1,t1,x1,y1⟩
   obtain⟨D2,z1,z2,z3,z4,_,z5,z6⟩:=x1.shrink t1.ms
   obtain⟨vi1,vR1,vP1,k1,_⟩:=t1.ms.blk
   have c1:w1.cell? ⟨R,1,none⟩=some (.int .i64 m.seen):=k1.cell 1
   have f1:=k1.frozen 1
   have c15a:w1.cell? ⟨R,15,none⟩=some (.func (.func 197) #[.pointer (some ⟨R,0,none⟩)] #[]):=k1.cell 15
   have s2:=t1.put { m.begin with seen:=m.begin.seen+1 } vn1 1 (.int .i64 ((m.seen:Int)+1)) (fun _ _ _=>rfl) rfl rfl rfl rfl
   have hx2:NxV (w1.setCell ⟨R,1,none⟩ (.int .i64 ((m.seen:Int)+1))) P1 R D2 m.begin.nx vn1:=z1.keep (t1.smR 1 _) ((Kp.set (F:=fun b=>b=R) rfl:Kp (fun b=>b=R) w1 _).sm (fun b hb e=>z2 b hb (.inl e)))
   have hsz:w1.heap.size=(w1.setCell ⟨R,1,none⟩ (.int .i64 ((m.seen:Int)+1))).heap.size:=by simp[World.setCell]
   have kn:=(zaZ R { m.begin with seen:=m.begin.seen+1 } vn1 vd1 P1 D2 b _ s2.ms (s2.both H.out HB.out) ⟨⟨HBG.out.bd.hs,HBG.out.bd.hl⟩,HBG.out.ha,HBG.out.hi,HBG.out.hre,HBG.out.hoR,HBG.out.hoP,HBG.out.hlR,HBG.out.hlP⟩ hb hx2 (by simp[PM.begin,PM.must]) z2 (fun b hb=>by rw[<- hsz];exact z6 b hb)).1 rfl
   have hnew:∀b,D2 b->w.heap.size<=b:=by
    intro b hb
    rcases(y1 b (z4 (by simp[PM.begin,PM.must]) b hb)).1 with e | e
    ·exact e.elim
    ·exact e
   have KN:=zH kn
   have S2:=zH s2
   have HNEW:=zH hnew
   clear kn s2 hnew hx2 t1 x1 y1 z1 z2 z3 z4 z5 z6 k1 hsz
   go_wp2_with fail
   refine KN.out.mono ?_
   rintro e w4 h4
   have H4:=zH (z0v.trS (D0:=D) S2.out HNEW.out h4)
   obtain⟨rfl,_⟩:=h4
   go_wp2
   go_end0
   exact H4.out
 | over =>
   have eS:m.take b={ m with seen:=m.seen+1 }:=by
    rw[z7s (by unfold PM.isNil;rw[hr])]
    unfold PM.step
    simp only[hr]
   rw[eS]
   rw[hr]at c15
   have c15':w.cell? ⟨R,15,none⟩=some (.func (.func 222) #[.pointer (some ⟨R,0,none⟩)] #[]):=c15
   have HF:=zH (s1.goesF hx rfl (fun b hb=>h.nP b hb) hT hD)
   clear s1 hx1 hD1 hbg1 RW h hB hbg hx hn hT hD k1 c15 eS hr
   go_enter Tryz.func168,Tryz.ntmps168
   go_wp2_with fail
   refine(zcZ R b _).mono ?_
   rintro e w4 ⟨rfl,rfl⟩
   go_wp2
   go_end0
   exact HF.out
 | stuffed =>
   have eS:=z7s (m:=m) (by unfold PM.isNil;rw[hr]) b
   rw[eS]
   rw[hr]at c15
   have c15':w.cell? ⟨R,15,none⟩=some (.func (.func 197) #[.pointer (some ⟨R,0,none⟩)] #[]):=c15
   have hne:m.nx ≠ .none:=hn (by rw[hr];simp)
   have hrw:=RW hne
   have kn:Calls Tryz.prog 197 #[.pointer (some ⟨R,0,none⟩),.int .u8 b] (w.setCell ⟨R,1,none⟩ (.int .i64 ((m.seen:Int)+1))) (z0v (w.setCell ⟨R,1,none⟩ (.int .i64 ((m.seen:Int)+1))) R vd P D (PM.step { m with seen:=m.seen+1 } b)):=by
    obtain⟨r1,r2,r3⟩:=hrw
    first | exact r1 hr | exact r2 hr | exact r3 hr
   have KN:=zH kn
   have S1:=zH s1
   clear s1 hx1 hD1 hbg1 RW h hB hbg hx hn hT hD k1 c15 eS hr hne hrw kn
   go_enter Tryz.func168,Tryz.ntmps168
   go_wp2_with fail
   refine KN.out.mono ?_
   rintro e w4 h4
   have H4:=zH (z0v.after S1.out h4)
   obtain⟨rfl,_⟩:=h4
   go_wp2
   go_end0
   exact H4.out
 | spaced =>
   have eS:=z7s (m:=m) (by unfold PM.isNil;rw[hr]) b
   rw[eS]
   rw[hr]at c15
   have c15':w.cell? ⟨R,15,none⟩=some (.func (.func 251) #[.pointer (some ⟨R,0,none⟩)] #[]):=c15
   have hne:m.nx ≠ .none:=hn (by rw[hr];simp)
   have hrw:=RW hne
   have kn:Calls Tryz.prog 251 #[.pointer (some ⟨R,0,none⟩),.int .u8 b] (w.setCell ⟨R,1,none⟩ (.int .i64 ((m.seen:Int)+1))) (z0v (w.setCell ⟨R,1,none⟩ (.int .i64 ((m.seen:Int)+1))) R vd P D (PM.step { m with seen:=m.seen+1 } b)):=by
    obtain⟨r1,r2,r3⟩:=hrw
    first | exact r1 hr | exact r2 hr | exact r3 hr
   have KN:=zH kn
   have S1:=zH s1
   clear s1 hx1 hD1 hbg1 RW h hB hbg hx hn hT hD k1 c15 eS hr hne hrw kn
   go_enter Tryz.func168,Tryz.ntmps168
   go_wp2_with fail
   refine KN.out.mono ?_
   rintro e w4 h4
   have H4:=zH (z0v.after S1.out h4)
   obtain⟨rfl,_⟩:=h4
   go_wp2
   go_end0
   exact H4.out
 | bare =>
   have eS:=z7s (m:=m) (by unfold PM.isNil;rw[hr]) b
   rw[eS]
   rw[hr]at c15
   have c15':w.cell? ⟨R,15,none⟩=some (.func (.func 242) #[.pointer (some ⟨R,0,none⟩)] #[]):=c15
   have hne:m.nx ≠ .none:=hn (by rw[hr];simp)
   have hrw:=RW hne
   have kn:Calls Tryz.prog 242 #[.pointer (some ⟨R,0,none⟩),.int .u8 b] (w.setCell ⟨R,1,none⟩ (.int .i64 ((m.seen:Int)+1))) (z0v (w.setCell ⟨R,1,none⟩ (.int .i64 ((m.seen:Int)+1))) R vd P D (PM.step { m with seen:=m.seen+1 } b)):=by
    obtain⟨r1,r2,r3⟩:=hrw
    first | exact r1 hr | exact r2 hr | exact r3 hr
   have KN:=zH kn
   have S1:=zH s1
   clear s1 hx1 hD1 hbg1 RW h hB hbg hx hn hT hD k1 c15 eS hr hne hrw kn
   go_enter Tryz.func168,Tryz.ntmps168
   go_wp2_with fail
   refine KN.out.mono ?_
   rintro e w4 h4
   have H4:=zH (z0v.after S1.out h4)
   obtain⟨rfl,_⟩:=h4
   go_wp2
   go_end0
   exact H4.out
end Go.Proofs.YtplbmlpdefpplaaGreatDoor
