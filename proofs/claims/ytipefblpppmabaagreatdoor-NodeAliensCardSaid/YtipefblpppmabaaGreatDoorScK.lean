
/- Frames of any kind on the wire, and what layer 9's automaton tells of them; what stays. No program here. No conditions but the fields' own widths. -/
import Derived.Test.YtipefblpppmabaaGreatDoorGk
import Derived.Test.YtipefblpppmabaaGreatDoorClaQ
namespace Go.Proofs.YtipefblpppmabaaGreatDoor
set_option linter.unusedVariables false
set_option linter.unusedSimpArgs false
open Go.RowKit
def rawF (f:Hd) (l:List Nat):List Nat:=if f.K=2 then rwD f l else if f.K=3 then rwX f l else putL (bodyC f l)
def wF (f:Hd) (l:List Nat):List Nat:=if f.K=2 then wdC f l else if f.K=3 then wxC f l else wireC f l
def arbF (f:Hd) (l:List Nat):Nat:=if f.K=2 then wArbD f l else if f.K=3 then wArbX f l else wArbC f l
def ackF (f:Hd) (l:List Nat):Nat:=if f.K=2 then wAckD f l else if f.K=3 then wAckX f l else wAckC f l
def erF (f:Hd) (l:List Nat):Nat:=if f.K=2 then okDE f l else if f.K=3 then okXE f l else okE f l
theorem okF_kind {f:Hd} {l:List Nat} (h:okF f l=true):f.K=1\/f.K=2\/f.K=3:=by
 simp only[okF,Bool.and_eq_true] at h
 exact hasF_kind h.1
theorem wF_of {f:Hd} {l:List Nat} (h:okF f l=true) (hW:WdX f) (hb:∀ x∈l,x < 256) :
    wF f l=rawF f l++ones 10/\ackF f l=(rawF f l).length+1/\34<=(rawF f l).length/\(rawF f l).length<=60000/\(∀ x∈rawF f l,x<=1)/\scS true (rawF f l) = .tail true f l [] /\
     (f.K≠3->scS false (rawF f l) = .tail true f l [])/\chk (wF f l)=true:=by
 have hI:=hW.1
 rcases okF_kind h with hk | hk | hk
 ·have ho:okC f l=true:=by simp[okC,hk,h]
  obtain⟨P,hP,hc,_,g1,g2,_⟩:=wire_ends ho
  unfold wF ackF rawF
  rw[if_neg (by omega),if_neg (by omega),if_neg (by omega),if_neg (by omega),if_neg (by omega),if_neg (by omega)]
  exact⟨by rw[wireC,if_pos ho],by rw[wAckC,if_pos ho],by omega,by omega,putL_bit (bits_off ho),sc_cl ho hI hb,fun _=>sc_cl ho hI hb,hc⟩
 ·have ho:okD f l=true:=by simp[okD,hk,h]
  obtain⟨P,hP,hc,_,g1,g2,_⟩:=wd_ends ho
  have hr1:(rwD f l).length<=60000:=by
   have h1:=bd_len ho
   have h2:=len64 ho
   have h3:=(putL_len2 (bdC f l)).1
   have h4:=rw_len f l
   split at h4<;>omega
  unfold wF ackF rawF
  rw[if_pos hk,if_pos hk,if_pos hk]
  exact⟨by rw[wdC,if_pos ho],by rw[wAckD,if_pos ho],by omega,hr1,fun x hx=>rw_bit x hx,sc_fd ho hI hb,fun _=>sc_fd ho hI hb,hc⟩
 ·have ho:okX f l=true:=by simp[okX,hk,h]
  obtain⟨P,hP,hc,_,g1,g2,_⟩:=wx_ends ho
  unfold wF ackF rawF
  have h2:¬f.K=2:=by omega
  simp only[if_neg h2,if_pos hk]
  exact⟨by rw[wxC,if_pos ho],by rw[wAckX,if_pos ho],by omega,by omega,rx_bit f l,sc_xl ho hW hb,fun h3=>absurd hk h3,hc⟩
theorem sc_fin (kn:Bool) (x:List Nat):(∃ s,scS kn x = .fin s/\2<=s.k/\staOf (scS kn x)=s)\/(staOf (scS kn x)=moreS\/staOf (scS kn x)=slotS):=by
 have key:∀ s,scS kn x = .fin s->2<=s.k:=by
  refine snocInd (P:=fun x=>∀ s,scS kn x = .fin s->2<=s.k) (fun s h=>(by cases h)) (fun x b ih => ?_) x
  intro s hs
  rw[scS,goS_snoc,<- scS] at hs
  generalize scS kn x=p at *
  cases p with
  | dyn y =>
    simp only[stepS] at hs
    split at hs
    ·split at hs
     ·cases hs;simp[badS]
     ·cases hs
    ·cases hq:judge kn (tell y++[b])<;>rw[hq] at hs<;>simp only[afterJ] at hs<;>cases hs<;>simp[badS]
  | fx h y=>simp only[stepS] at hs;(repeat' split at hs)<;>cases hs<;>simp[badS]
  | xs h y=>simp only[stepS] at hs;(repeat' split at hs)<;>cases hs<;>simp[badS]
  | xd h y=>simp only[stepS] at hs;(repeat' split at hs)<;>cases hs<;>simp[badS]
  | xe h y z=>simp only[stepS] at hs;(repeat' split at hs)<;>cases hs<;>simp[badS]
  | tail ok f l t=>simp only[stepS] at hs;(repeat' split at hs)<;>cases hs<;>simp[badS]
  | fin s'=>exact ih s hs
 generalize scS kn x=p at *
 cases p with
 | fin s=>exact .inl ⟨s,rfl,key s rfl,rfl⟩
 | tail ok f l t =>
   refine .inr ?_
   show (if t.length=1/\ok=true then (_:Sta) else _)=_\/(if t.length=1/\ok=true then (_:Sta) else _)=_
   split
   ·exact .inr rfl
   ·exact .inl rfl
 | _=>exact .inr (.inl rfl)
end Go.Proofs.YtipefblpppmabaaGreatDoor
