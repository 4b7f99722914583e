
/- When two rows of bytes are the same: for one law alone. No conditions. -/
import Derived.Test.YtplbmlpdefpplaaGreatDoorGa
set_option maxHeartbeats 800000
set_option maxRecDepth 100000
namespace Go.Proofs.YtplbmlpdefpplaaGreatDoor
set_option linter.unusedVariables false
set_option linter.unusedSimpArgs false
open Go.RowKit
theorem zl7 (a a':Option Addr) (cap cap':Nat) (l l':List Nat) (w:World) (h:Bs w a cap l) (h':Bs w a' cap' l') :
    Calls Tryz.prog 13 #[.slice a l.length cap,.slice a' l'.length cap'] w fun e w'=>e = .returned (.bool (decide (l=l')))/\Nb w w':=by
 have hL:=h.len
 have hL':=h'.len
 by_cases hne:l.length=l'.length
 ·have hlen:=zH hne
  have hle:l.length<=l'.length:=by omega
  have hge:l'.length<=l.length:=by omega
  have hd:((l.length:Int) != (l'.length:Int))=false:=by simp[hne]
  clear hne
  go_enter Tryz.func13,Tryz.ntmps13
  go_wp2
  go_loopw [13] (fun i wr=>∃k:Nat,k<=l.length/\i = .int .i64 k/\(∀j,j < k->l[j]? = l'[j]?)/\Nb w wr) (fun i _=>l.length - (intOf i).toNat)
  case atStart=>exact⟨0,Nat.zero_le _,rfl,by intro j hj;omega,Nb.rfl⟩
  case round =>
   obtain⟨k,hk,rfl,hall,hnb⟩:=hrel
   have HA:=zH hall
   by_cases hlt:k < l.length
   ·obtain⟨b,o,rfl,hcl⟩:=(h.below hnb).hcells (by omega)
    obtain⟨b',o',rfl,hcl'⟩:=(h'.below hnb).hcells (by omega)
    obtain⟨x,hx⟩:∃x,l[k]? = some x:=⟨l[k],by simp[hlt]⟩
    obtain⟨x',hx'⟩:∃x,l'[k]? = some x:=⟨l'[k]'(by omega),by simp⟩
    have c1:=hcl k hlt
    have c2:=hcl' k (by omega)
    rw[show l.getD k 0=x from by simp[List.getD,hx]]at c1
    rw[show l'.getD k 0=x' from by simp[List.getD,hx']]at c2
    have HX:=zH hx
    have HX':=zH hx'
    clear hcl hcl' hx hx' hall h h'
    go_wp2
    go_quiet (fail)
    by_cases hxx:x=x'
    ·have hb:((x:Int) != (x':Int))=false:=by simp[hxx]
     have HH:=zH hxx
     clear hxx
     go_wp2
     go_roundw
     case rel=>exact⟨k+1,by omega,by go_num,fun j hj=>by
      rcases Nat.lt_succ_iff_lt_or_eq.1 hj with h | rfl
      ·exact HA.out j h
      ·rw[HX.out,HX'.out,HH.out],hnb.tr (Nb.drewN _ _)⟩
     case measure=>simp[intOf];omega
    ·have hb:((x:Int) != (x':Int))=true:=by rw[bne_iff_ne];omega
     have hf:decide (l=l')=false:=by
      simp only[decide_eq_false_iff_not]
      rintro rfl
      have:=HX.out.symm.trans HX'.out
      simp only[Option.some.injEq]at this
      exact hxx this
     have HF:=zH hf
     clear hf
     go_wp2
     go_ret
     exact⟨by rw[HF.out];rfl,hnb.tr (Nb.drewN _ _)⟩
   ·obtain rfl:k=l.length:=by omega
    have hf:decide (l=l')=true:=by
     simp only[decide_eq_true_eq]
     apply List.ext_getElem?
     intro j
     by_cases hj:j < l.length
     ·exact hall j hj
     ·rw[List.getElem?_eq_none (by omega),List.getElem?_eq_none (by omega)]
    have HF:=zH hf
    clear hf hall
    go_wp2
    go_ret
    exact⟨by rw[HF.out];rfl,hnb⟩
 ·have hd:((l.length:Int) != (l'.length:Int))=true:=by rw[bne_iff_ne];omega
  have hf:decide (l=l')=false:=by
   simp only[decide_eq_false_iff_not]
   rintro rfl
   exact hne rfl
  have HF:=zH hf
  clear hf
  go_enter Tryz.func13,Tryz.ntmps13
  go_wp2
  go_ret
  exact⟨by rw[HF.out];rfl,Nb.rfl⟩
end Go.Proofs.YtplbmlpdefpplaaGreatDoor
