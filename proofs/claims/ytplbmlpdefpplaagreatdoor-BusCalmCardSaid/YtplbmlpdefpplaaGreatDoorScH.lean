
/- What the scanner's memory holds: the machine's block, what is kept of what a bit means next. No conditions. -/
import Derived.Test.YtplbmlpdefpplaaGreatDoorScM
import Derived.Test.YtplbmlpdefpplaaGreatDoorGv
import Derived.Test.YtplbmlpdefpplaaGreatDoorGe
namespace Go.Proofs.YtplbmlpdefpplaaGreatDoor
set_option linter.unusedVariables false
set_option linter.unusedSimpArgs false
open Go.RowKit
variable {ks l:List Nat} {R b c:Nat} {G P P' P0:Nat->Prop} {t:TypeId} {v vd vd0 vn:Value} {w w' w0:World}
theorem Blk.ne{a:Nat}{cs cs':Array Value}{t':TypeId}(h:Blk w a cs t)(h':Blk w b cs' t')(n:t≠t'):a≠b:=by
 rintro rfl
 unfold Blk at h h'
 rw[h]at h'
 simp at h'
 exact n h'.2
theorem z04.ne{g:Nat}{cs:Array Value}(h:z04 w v l)(hg:v.ownBlock=some g)(h':Blk w b cs t)(n:t≠5):g≠b:=by
 rintro rfl
 rcases h.1.2 with ⟨rfl,_⟩ | ⟨g',cap,cur,rfl,_,hh,_⟩
 ·simp[Value.ownBlock]at hg
 ·simp[Value.ownBlock]at hg
  subst hg
  unfold Blk at h'
  rw[hh]at h'
  simp at h'
  exact n h'.2.symm
def Sm(P:Nat->Prop)(w w':World):Prop:=∀b,P b->b < w.heap.size->w'.heap[b]? = w.heap[b]?
theorem Kp.sm(h:Kp G w w')(hn:∀b,P b->¬G b):Sm P w w':=fun b hb hl=>h.block b hl (hn b hb)
theorem Sm.blk(h:Sm P w w')(hb:P b){cs:Array Value}(hk:Blk w b cs t):Blk w' b cs t:=(h b hb hk.lt).trans hk
theorem Sm.nb(h:Nb w w'):Sm P w w':=fun b _ hl=>h.block b hl
def zib(R:Nat):Rw->Value
 | .nil => .nilFunc
 | .stuffed => .func (.func 197) #[.pointer (some ⟨R,0,none⟩)] #[]
 | .spaced => .func (.func 251) #[.pointer (some ⟨R,0,none⟩)] #[]
 | .bare => .func (.func 242) #[.pointer (some ⟨R,0,none⟩)] #[]
 | .over => .func (.func 222) #[.pointer (some ⟨R,0,none⟩)] #[]
def PM.cs(m:PM)(R:Nat)(vn vd vi vR vP:Value):Array Value:=#[.bool m.kn,.int .i64 m.seen,.int .i64 m.is.k,.int .i64 m.is.e,.int .i64 m.is.f.K,.int .u32 m.is.f.I,.bool m.is.f.X,.bool m.is.f.R,.bool m.is.f.B,.bool m.is.f.E,.bool m.is.f.S,.int .u8 m.is.f.D,.int .u8 m.is.f.V,.int .u32 m.is.f.A,vi,
 zib R m.raw,.int .u8 m.last,.int .i64 m.alike,.int .i64 m.stuffs,.int .i64 m.every,.int .i64 m.since,.int .u64 (m.re 0),.int .u64 (m.re 1),.int .u64 (m.re 2),.int .u64 (m.re 3),.int .u64 (m.re 4),.int .u64 (m.re 5),vR,vP,vn,.bool m.wrong,
 .int .i64 m.f.K,.int .u32 m.f.I,.bool m.f.X,.bool m.f.R,.bool m.f.B,.bool m.f.E,.bool m.f.S,.int .u8 m.f.D,.int .u8 m.f.V,.int .u32 m.f.A,vd]
def Box(w:World)(P:Nat->Prop)(c:Nat)(v:Value)(t:TypeId):Prop:=P c/\Blk w c #[v] t
theorem Box.keep(h:Box w P c v t)(hs:Sm P w w')(hp:∀b,P b->P' b):Box w' P' c v t:=⟨hp _ h.1,hs.blk h.1 h.2⟩
abbrev z48(w:World)(P:Nat->Prop)(R c:Nat):Prop:=Box w P c (.pointer (some ⟨R,0,none⟩)) 109
abbrev zfQ(w:World)(P:Nat->Prop)(c n:Nat):Prop:=Box w P c (.int .i64 (n:Nat)) 3
def K0.ok:K0->Prop
 | .fixd k=>k=2\/k=3
 | .sumFd k=>k=2\/k=3
 | .headSum n=>n<=2048
 | .vc n=>n<=2048
 | _=>True
def K0.F:K0->Nat
 | .top=>200
 | .classic=>227
 | .headed=>237
 | .dataPart=>247
 | .tail=>235
 | .delimited=>243
 | .done=>265
 | .trailed=>264
 | .heads=>226
 | .sumCl=>233
 | .esi=>244
 | .fdSize=>245
 | .fixd _=>250
 | .sumFd _=>253
 | .xlSize=>255
 | .headSum _=>259
 | .vc _=>260
 | .sumXl=>263
def K0A(w:World)(P:Nat->Prop)(R:Nat):K0->Array Value->Array Value->Prop
 | .heads,a,c | .sumCl,a,c | .esi,a,c | .fdSize,a,c | .xlSize,a,c | .sumXl,a,c=>a=#[]/\∃b,c=#[.pointer (some ⟨b,0,none⟩)]/\z48 w P R b
 | .fixd k,a,c | .sumFd k,a,c | .headSum k,a,c | .vc k,a,c=>a=#[]/\∃b d,c=#[.pointer (some ⟨b,0,none⟩),.pointer (some ⟨d,0,none⟩)]/\z48 w P R b/\zfQ w P d k
 | _,a,c=>a=#[.pointer (some ⟨R,0,none⟩)]/\c=#[]
theorem K0A.keep{w w':World}{P P':Nat->Prop}{R:Nat}{k:K0}{a c:Array Value}(h:K0A w P R k a c)(hs:Sm P w w')(hp:∀b,P b->P' b):K0A w' P' R k a c:=by
 cases k<;>first
  | exact h
  | (obtain⟨h1,b,h2,h3⟩:=h;exact⟨h1,b,h2,h3.keep hs hp⟩)
  | (obtain⟨h1,b,d,h2,h3,h4⟩:=h;exact⟨h1,b,d,h2,h3.keep hs hp,h4.keep hs hp⟩)
def K0V(w:World)(P:Nat->Prop)(R:Nat)(k:K0)(v:Value):Prop:=∃a c,v = .func (.func k.F) a c/\K0A w P R k a c/\k.ok
theorem K0V.keep{w w':World}{P P':Nat->Prop}{R:Nat}{k:K0}{v:Value}(h:K0V w P R k v)(hs:Sm P w w')(hp:∀b,P b->P' b):K0V w' P' R k v:=by
 obtain⟨a,c,h1,h2,h3⟩:=h
 exact⟨a,c,h1,h2.keep hs hp,h3⟩
def KS.F:KS->Nat
 | .cl=>231
 | .sized=>246
 | .checked=>256
def KSA(w:World)(P:Nat->Prop)(R:Nat):KS->Array Value->Array Value->Prop
 | .cl,a,c=>a=#[]/\∃b,c=#[.pointer (some ⟨b,0,none⟩)]/\z48 w P R b
 | _,a,c=>a=#[.pointer (some ⟨R,0,none⟩)]/\c=#[]
def KSV(w:World)(P:Nat->Prop)(R:Nat)(k:KS)(v:Value):Prop:=∃a c,v = .func (.func k.F) a c/\KSA w P R k a c
theorem KSV.keep{w w':World}{P P':Nat->Prop}{R:Nat}{k:KS}{v:Value}(h:KSV w P R k v)(hs:Sm P w w')(hp:∀b,P b->P' b):KSV w' P' R k v:=by
 obtain⟨a,c,h1,h2⟩:=h
 refine⟨a,c,h1,?_⟩
 cases k
 ·obtain⟨h1,b,h2,h3⟩:=h2
  exact⟨h1,b,h2,h3.keep hs hp⟩
 ·exact h2
 ·exact h2
def Fk.off:Fk->Nat
 | .rtr=>34
 | .brs=>35
 | .esi=>36
 | .sec=>37
def KN.F:KN->Nat
 | .identified=>212
 | .longOrNot=>221
 | .prolonged=>223
 | .classicOrNot=>224
 | .fdOrXL=>228
 | .flag _ _=>229
 | .size _=>238
 | .data _ _=>240
 | .check _ _=>248
 | .sdt=>254
 | .vcid _=>261
 | .af _=>262
def KNA(w:World)(P:Nat->Prop)(R:Nat):KN->Array Value->Array Value->Prop
 | .flag f k,a,c=>a=#[]/\∃b d v,c=#[.pointer (some ⟨b,0,none⟩),.pointer (some ⟨d,0,none⟩)]/\Box w P b (.pointer (some ⟨R,f.off,none⟩)) 274/\Box w P d v 1/\K0V w P R k v
 | .size k,a,c=>a=#[]/\∃b d v,c=#[.pointer (some ⟨b,0,none⟩),.pointer (some ⟨d,0,none⟩)]/\z48 w P R b/\Box w P d v 199/\KSV w P R k v
 | .data n k,a,c=>a=#[]/\(0 < n/\n<=2048)/\∃b d f v,c=#[.pointer (some ⟨b,0,none⟩),.pointer (some ⟨d,0,none⟩),.pointer (some ⟨f,0,none⟩)]/\z48 w P R b/\zfQ w P d n/\Box w P f v 1/\K0V w P R k v
 | .check n k,a,c=>a=#[]/\∃b d f v,c=#[.pointer (some ⟨b,0,none⟩),.pointer (some ⟨d,0,none⟩),.pointer (some ⟨f,0,none⟩)]/\z48 w P R b/\Box w P d (.int .u64 (n:Nat)) 73/\Box w P f v 1/\K0V w P R k v
 | .sdt,a,c=>a=#[]/\∃b,c=#[.pointer (some ⟨b,0,none⟩)]/\z48 w P R b
 | .vcid n,a,c | .af n,a,c=>a=#[]/\n<=2048/\∃b d,c=#[.pointer (some ⟨b,0,none⟩),.pointer (some ⟨d,0,none⟩)]/\z48 w P R b/\zfQ w P d n
 | _,a,c=>a=#[.pointer (some ⟨R,0,none⟩)]/\c=#[]
theorem KNA.keep{w w':World}{P P':Nat->Prop}{R:Nat}{k:KN}{a c:Array Value}(h:KNA w P R k a c)(hs:Sm P w w')(hp:∀b,P b->P' b):KNA w' P' R k a c:=by
 cases k<;>first
  | exact h
  | (obtain⟨h1,b,h2,h3⟩:=h;exact⟨h1,b,h2,h3.keep hs hp⟩)
  | (obtain⟨h1,b,d,v,h2,h3,h4,h5⟩:=h;exact⟨h1,b,d,v,h2,h3.keep hs hp,h4.keep hs hp,h5.keep hs hp⟩)
  | (obtain⟨h1,b,d,f,v,h2,h3,h4,h5,h6⟩:=h;exact⟨h1,b,d,f,v,h2,h3.keep hs hp,h4.keep hs hp,h5.keep hs hp,h6.keep hs hp⟩)
  | (obtain⟨h1,hn,b,d,f,v,h2,h3,h4,h5,h6⟩:=h;exact⟨h1,hn,b,d,f,v,h2,h3.keep hs hp,h4.keep hs hp,h5.keep hs hp,h6.keep hs hp⟩)
  | (obtain⟨h1,hn,b,d,h2,h3,h4⟩:=h;exact⟨h1,hn,b,d,h2,h3.keep hs hp,h4.keep hs hp⟩)
def KNV(w:World)(P:Nat->Prop)(R:Nat)(k:KN)(v:Value):Prop:=∃a c,v = .func (.func k.F) a c/\KNA w P R k a c
theorem KNV.keep{w w':World}{P P':Nat->Prop}{R:Nat}{k:KN}{v:Value}(h:KNV w P R k v)(hs:Sm P w w')(hp:∀b,P b->P' b):KNV w' P' R k v:=by
 obtain⟨a,c,h1,h2⟩:=h
 exact⟨a,c,h1,h2.keep hs hp⟩
def KsV(w:World)(P:Nat->Prop)(v:Value)(ks:List Nat):Prop:=(v = .slice none 0 0/\ks=[])\/∃b,v = .slice (some ⟨b,0,none⟩) ks.length ks.length/\P b/\Blk w b (ks.map fun k:Nat=>Value.int .i64 (k:Int)).toArray 3
theorem KsV.keep(h:KsV w P v ks)(hs:Sm P w w')(hp:∀b,P b->P' b):KsV w' P' v ks:=by
 rcases h with h | ⟨b,h1,h2,h3⟩
 ·exact .inl h
 ·exact .inr ⟨b,h1,hp _ h2,hs.blk h2 h3⟩
def zjN(w:World)(P:Nat->Prop)(v:Value)(l:List Nat):Prop:=∃a c,v = .slice a l.length c/\Bs w a c l/\∀b o t,a=some ⟨b,o,t⟩->P b
theorem Bs.sm{a:Option Addr}(h:Bs w a c l)(hk:Sm P w w')(hn:∀b o t,a=some ⟨b,o,t⟩->P b):Bs w' a c l:=by
 refine⟨h.hcap,h.hmax,h.hbyte,fun hl => ?_⟩
 obtain⟨b,o,ha,hc⟩:=h.hcells hl
 refine⟨b,o,ha,fun j hj => ?_⟩
 have h1:=hc j hj
 have hb:=World.block_lt_of_cell? _ _ h1
 have e:=hk b (hn b o none ha) hb
 rw[<- h1]
 simp only[World.cell?,e]
theorem zjN.keep(h:zjN w P v l)(hs:Sm P w w')(hp:∀b,P b->P' b):zjN w' P' v l:=by
 obtain⟨a,c,h1,h2,h3⟩:=h
 exact⟨a,c,h1,h2.sm hs h3,fun b o t e=>hp _ (h3 b o t e)⟩
def NxV(w:World)(P:Nat->Prop)(R:Nat)(D:Nat->Prop):Nx->Value->Prop
 | .none,_=>True
 | .num left n k,v=>∃cn cs ct vk,v = .func (.func 220) #[] #[.pointer (some ⟨cn,0,none⟩),.pointer (some ⟨cs,0,none⟩),.pointer (some ⟨ct,0,none⟩)] /\
     Blk w cn #[.int .u64 (n:Nat)] 73/\Blk w cs #[.int .i64 (left:Nat)] 3/\Box w P ct vk 268/\KNV w P R k vk/\(D cn/\D cs)/\(¬P cn/\¬P cs)/\(0 < left/\left<=32/\n < 2^(32 - left))
 | .must want k,v=>∃cw cm ct vk a c,v = .func (.func 210) #[] #[.pointer (some ⟨cw,0,none⟩),.pointer (some ⟨cm,0,none⟩),.pointer (some ⟨ct,0,none⟩)] /\
     Blk w cw #[.slice a want.length c] 35/\z48 w P R cm/\Box w P ct vk 1/\K0V w P R k vk/\D cw/\¬P cw/\(Bs w a c want/\(∀b o t,a=some ⟨b,o,t⟩->P b))/\want≠[]
 | .slot,v=>v = .func (.func 249) #[.pointer (some ⟨R,0,none⟩)] #[]
 | .behind,v=>v = .func (.func 257) #[.pointer (some ⟨R,0,none⟩)] #[]
theorem NxV.keep{w w':World}{P D:Nat->Prop}{R:Nat}{x:Nx}{v:Value}(h:NxV w P R D x v)(hs:Sm P w w')(hd:Sm D w w'):NxV w' P R D x v:=by
 cases x with
 | none=>trivial
 | slot=>exact h
 | behind=>exact h
 | num left n k =>
   obtain⟨cn,cs,ct,vk,h1,h2,h3,h4,h5,h6,h7,h8⟩:=h
   exact⟨cn,cs,ct,vk,h1,hd.blk h6.1 h2,hd.blk h6.2 h3,h4.keep hs (fun _ h=>h),h5.keep hs (fun _ h=>h),h6,h7,h8⟩
 | must want k =>
   obtain⟨cw,cm,ct,vk,a,c,h1,h2,h3,h4,h5,h6,h7,h8,h9⟩:=h
   exact⟨cw,cm,ct,vk,a,c,h1,hd.blk h6 h2,h3.keep hs (fun _ h=>h),h4.keep hs (fun _ h=>h),h5.keep hs (fun _ h=>h),h6,h7,⟨h8.1.sm hs h8.2,h8.2⟩,h9⟩
def Tm(R:Nat)(vd:Value)(b:Nat):Prop:=b=R\/vd.ownBlock=some b
structure MS(w:World)(R:Nat)(m:PM)(vn vd:Value)(P:Nat->Prop):Prop where
 blk:∃vi vR vP,Blk w R (m.cs R vn vd vi vR vP) 197/\zjN w P vi m.is.l/\KsV w P vR m.oR/\KsV w P vP m.oP
 own:z04 w vd m.l
 nil:m.l=[]->vd = .slice none 0 0
 nP:∀b,P b->¬Tm R vd b
 lt:∀b,P b->b < w.heap.size
theorem MS.ltR{m:PM}(h:MS w R m vn vd P):R < w.heap.size:=by
 obtain⟨_,_,_,h1,_⟩:=h.blk
 exact h1.lt
theorem MS.neR{m:PM}(h:MS w R m vn vd P):vd.ownBlock≠some R:=by
 obtain⟨_,_,_,h1,_⟩:=h.blk
 intro e
 exact h.own.ne e h1 (by decide) rfl
theorem MS.ltT{m:PM}(h:MS w R m vn vd P):∀b,Tm R vd b->b < w.heap.size:=by
 rintro b (rfl | hb)
 ·exact h.ltR
 ·exact h.own.lt hb
theorem MS.keep{w w':World}{R:Nat}{m:PM}{vn vd:Value}{P G:Nat->Prop}(h:MS w R m vn vd P)(hk:Kp G w w')(hT:∀b,Tm R vd b->¬G b)(hP:∀b,P b->¬G b):MS w' R m vn vd P:=by
 obtain⟨vi,vR,vP,h1,h2,h3,h4⟩:=h.blk
 have hs:=hk.sm hP
 exact⟨⟨vi,vR,vP,h1.keep hk (hT R (.inl rfl)),h2.keep hs (fun _ h=>h),h3.keep hs (fun _ h=>h),h4.keep hs (fun _ h=>h)⟩,h.own.keep hk (fun g hg=>hT g (.inr hg)),h.nil,h.nP,fun b hb=>Nat.lt_of_lt_of_le (h.lt b hb) hk.size⟩
theorem MS.nb{m:PM}(h:MS w R m vn vd P)(hk:Nb w w'):MS w' R m vn vd P:=h.keep (Kp.ofNb (F:=fun _=>False) hk) (by simp) (by simp)
theorem MS.more{m:PM}(h:MS w R m vn vd P)(h1:∀b,P b->P' b)(h2:∀b,P' b->¬Tm R vd b)(h3:∀b,P' b->b < w.heap.size):MS w R m vn vd P':=by
 obtain⟨vi,vR,vP,k1,k2,k3,k4⟩:=h.blk
 have hs:Sm P w w:=fun _ _ _=>rfl
 exact⟨⟨vi,vR,vP,k1,k2.keep hs h1,k3.keep hs h1,k4.keep hs h1⟩,h.own,h.nil,h2,h3⟩
theorem MS.put{m:PM}(h:MS w R m vn vd P)(m':PM)(vn':Value)(j:Nat)(u:Value)(hc:∀vi vR vP,(m.cs R vn vd vi vR vP).setIfInBounds j u=m'.cs R vn' vd vi vR vP)(h1:m'.is.l=m.is.l)(h2:m'.oR=m.oR)(h3:m'.oP=m.oP)(h4:m'.l=m.l):MS (w.setCell ⟨R,j,none⟩ u) R m' vn' vd P:=by
 obtain⟨vi,vR,vP,k1,k2,k3,k4⟩:=h.blk
 have hk:Kp (fun b=>b=R) w (w.setCell ⟨R,j,none⟩ u):=Kp.set (F:=fun b=>b=R) rfl
 have hs:Sm P w (w.setCell ⟨R,j,none⟩ u):=hk.sm (fun b hb e=>h.nP b hb (.inl e))
 refine⟨⟨vi,vR,vP,by rw[<- hc];exact k1.set j u,?_,?_,?_⟩,?_,(by rw[h4];exact h.nil),h.nP,fun b hb=>Nat.lt_of_lt_of_le (h.lt b hb) hk.size⟩
 ·rw[h1];exact k2.keep hs (fun _ h=>h)
 ·rw[h2];exact k3.keep hs (fun _ h=>h)
 ·rw[h3];exact k4.keep hs (fun _ h=>h)
 ·rw[h4];exact h.own.keep hk (fun g hg e=>h.neR (by rw[hg,e]))
theorem MS.tab{m:PM}(h:MS w R m vn vd P)(hb:z0i w):¬Tm R vd 1/\¬Tm R vd 0:=by
 obtain⟨vi,vR,vP,k1,_⟩:=h.blk
 have a0:w.cell? ⟨1,0,none⟩=some (.int .i64 0):=hb.1 0 _ rfl
 have b0:w.cell? ⟨0,0,none⟩=some (.int .i64 12):=hb.2 0 (by omega)
 have c0:w.cell? ⟨R,0,none⟩=some (.bool m.kn):=k1.cell 0
 have key:∀g x,w.cell? ⟨g,0,none⟩=some (.int .i64 x)->¬Tm R vd g:=by
  rintro g x hx (rfl | hg)
  ·rw[c0]at hx;cases hx
  ·by_cases hl:m.l=[]
   ·rw[h.nil hl]at hg;simp[Value.ownBlock]at hg
   ·have hp:0 < m.l.length:=List.length_pos_iff.2 hl
    have hc:=h.own.1.cells (g:=g) hg 0 (.int .u8 ((m.l.getD 0 0:Nat):Int)) (by simp[List.getD,hp])
    rw[Addr.add_zero']at hc
    rw[hc]at hx
    cases hx
 exact⟨key _ _ a0,key _ _ b0⟩
theorem z0i.keep(h:z0i w)(hk:Kp G w w')(h1:¬G 1)(h2:¬G 0):z0i w':=by
 have key:∀(p:Addr) v,¬G p.block->w.cell? p=some v->w'.cell? p=some v:=by
  intro p v hp hv
  have hb:=World.block_lt_of_cell? _ _ hv
  have e:=hk.block _ hb hp
  rw[<- hv]
  simp only[World.cell?,e]
 exact⟨fun i v hi=>key _ _ h1 (h.1 i v hi),fun c hc=>key _ _ h2 (h.2 c hc)⟩
structure St(w0:World)(R:Nat)(vd0:Value)(P0:Nat->Prop)(m:PM)(vn vd:Value)(P:Nat->Prop)(w:World):Prop where
 ms:MS w R m vn vd P
 kp:Kp (Tm R vd0) w0 w
 hP:∀b,P b->P0 b\/Tm R vd0 b\/w0.heap.size<=b
 hT:∀b,Tm R vd b->Tm R vd0 b\/w0.heap.size<=b
theorem MS.st{m:PM}(h:MS w R m vn vd P):St w R vd P m vn vd P w:=⟨h,Kp.rfl,fun _ h => .inl h,fun _ h => .inl h⟩
theorem St.tr{w0 w1 w2:World}{R:Nat}{vd0 vd1 vd2 vn1 vn2:Value}{P0 P1 P2:Nat->Prop}{m1 m2:PM}(h:St w0 R vd0 P0 m1 vn1 vd1 P1 w1)(k:St w1 R vd1 P1 m2 vn2 vd2 P2 w2):St w0 R vd0 P0 m2 vn2 vd2 P2 w2:=by
 refine⟨k.ms,h.kp.tr k.kp h.hT,fun b hb => ?_,fun b hb => ?_⟩
 ·rcases k.hP b hb with h1 | h1 | h1
  ·exact h.hP b h1
  ·rcases h.hT b h1 with h2 | h2
   ·exact .inr (.inl h2)
   ·exact .inr (.inr h2)
  ·exact .inr (.inr (Nat.le_trans h.kp.size h1))
 ·rcases k.hT b hb with h1 | h1
  ·exact h.hT b h1
  ·exact .inr (Nat.le_trans h.kp.size h1)
theorem St.nb{w0 w w':World}{R:Nat}{vd0 vn vd:Value}{P0 P:Nat->Prop}{m:PM}(h:St w0 R vd0 P0 m vn vd P w)(hk:Nb w w'):St w0 R vd0 P0 m vn vd P w':=⟨h.ms.nb hk,h.kp.tr (Kp.ofNb (F:=fun _=>False) hk) (by simp),h.hP,h.hT⟩
theorem St.al{w0 w:World}{R:Nat}{vd0 vn vd:Value}{P0 P:Nat->Prop}{m:PM}(h:St w0 R vd0 P0 m vn vd P w)(o:Obj):St w0 R vd0 P0 m vn vd P (w.alloc o):=h.nb (Nb.rfl.al o)
theorem St.both{vn0:Value}{m0 m:PM}(h:St w0 R vd0 P0 m vn vd P w)(h0:MS w0 R m0 vn0 vd0 P0)(hb:z0i w0):z0i w:=by
 obtain⟨t1,t2⟩:=h0.tab hb
 exact hb.keep h.kp t1 t2
theorem St.also{m:PM}(h:St w0 R vd0 P0 m vn vd P w)(c:Nat)(h1:w0.heap.size<=c)(h2:¬Tm R vd c)(h3:c < w.heap.size):St w0 R vd0 P0 m vn vd (fun b=>P b\/b=c) w:=by
 refine⟨h.ms.more (fun _ h => .inl h) ?_ ?_,h.kp,?_,h.hT⟩
 ·rintro b (hb | rfl)
  ·exact h.ms.nP b hb
  ·exact h2
 ·rintro b (hb | rfl)
  ·exact h.ms.lt b hb
  ·exact h3
 ·rintro b (hb | rfl)
  ·exact h.hP b hb
  ·exact .inr (.inr h1)
theorem St.box{m:PM}(h:St w0 R vd0 P0 m vn vd P w)(v:Value)(t:TypeId):St w0 R vd0 P0 m vn vd (fun b=>P b\/b=w.heap.size) (w.alloc (.cells #[v] t))/\Box (w.alloc (.cells #[v] t)) (fun b=>P b\/b=w.heap.size) w.heap.size v t:=by
 refine⟨(h.al _).also w.heap.size h.kp.size (fun ht => ?_) (by rw[World.size_alloc];omega),.inr rfl,Blk.new w #[v] t⟩
 have:=h.ms.ltT _ ht
 omega
theorem St.put{w0 w:World}{R:Nat}{vd0 vn vd:Value}{P0 P:Nat->Prop}{m:PM}(h:St w0 R vd0 P0 m vn vd P w)(m':PM)(vn':Value)(j:Nat)(u:Value)(hc:∀vi vR vP,(m.cs R vn vd vi vR vP).setIfInBounds j u=m'.cs R vn' vd vi vR vP)(h1:m'.is.l=m.is.l)(h2:m'.oR=m.oR)(h3:m'.oP=m.oP)(h4:m'.l=m.l):St w0 R vd0 P0 m' vn' vd P (w.setCell ⟨R,j,none⟩ u) :=
 ⟨h.ms.put m' vn' j u hc h1 h2 h3 h4,h.kp.tr (Kp.set (F:=fun b=>b=R) rfl) (fun _ e => .inl (.inl e)),h.hP,h.hT⟩
def zZ(w0:World)(R:Nat)(vd0:Value)(P0 D0:Nat->Prop)(m':PM)(w':World):Prop :=
 ∃P' D' vd' vn',St w0 R vd0 P0 m' vn' vd' P' w'/\NxV w' P' R D' m'.nx vn'/\∀b,D' b->(D0 b\/w0.heap.size<=b)/\b < w'.heap.size
def z1z(w0:World)(R:Nat)(vd0:Value)(P0:Nat->Prop)(m':PM)(e:Ending)(w':World):Prop:=e = .returned (.tuple #[])/\zZ w0 R vd0 P0 (fun _=>False) m' w'
theorem zZ.from{m m':PM}(h:St w0 R vd0 P0 m vn vd P w)(k:zZ w R vd P (fun _=>False) m' w'):zZ w0 R vd0 P0 (fun _=>False) m' w':=by
 obtain⟨P',D',vd',vn',h1,h2,h3⟩:=k
 refine⟨P',D',vd',vn',h.tr h1,h2,fun b hb=>⟨.inr ?_,(h3 b hb).2⟩⟩
 rcases(h3 b hb).1 with h4 | h4
 ·exact h4.elim
 ·exact Nat.le_trans h.kp.size h4
end Go.Proofs.YtplbmlpdefpplaaGreatDoor
