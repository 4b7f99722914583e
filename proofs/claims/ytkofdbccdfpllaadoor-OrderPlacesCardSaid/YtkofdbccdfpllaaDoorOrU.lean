
/- The document's Ints, Rank and First of frames. Condition: at most a thousand frames. -/
import Derived.Test.YtkofdbccdfpllaaDoorOqR
import Derived.Test.YtkofdbccdfpllaaDoorOrT
set_option maxHeartbeats 1600000
set_option maxRecDepth 100000
namespace Go.Proofs.YtkofdbccdfpllaaDoor
set_option linter.unusedVariables false
set_option linter.unusedSimpArgs false
open Go.RowKit
theorem getD_ext0 {l m:List Nat} (hl:l.length=m.length) (h:∀ k,k < l.length->l.getD k 0=m.getD k 0):l=m:=by
 apply List.ext_getElem hl
 intro k h1 h2
 have:=h k h1
 simpa [List.getD,h1,h2] using this
theorem OwnN.cellA {w:World} {a:Option Addr} {n cap:Nat} {l:List Nat} (h:OwnN w (.slice a n cap) l) (k:Nat) (hk:k < l.length):∃ g,a=some ⟨g,0,none⟩/\w.cell? ⟨g,k,none⟩=some (.int .i64 ((l.getD k 0:Nat):Int)):=by
 obtain⟨a',c',hv,ha,_⟩:=h.shape
 simp only[Value.slice.injEq] at hv
 obtain⟨rfl,rfl,rfl⟩:=hv
 obtain⟨g,rfl⟩:=ha (by omega)
 exact⟨g,rfl,h.cell k hk⟩
theorem refints_any (v u:Value) (l m:List Nat) (w:World) (h:OwnN w v l) (h':OwnN w u m) :
    Calls Tryd.prog 10 #[v,u] w fun e w'=>e = .returned (.bool (decide (l=m)))/\Nb w w':=by
 obtain⟨a,c,rfl,_,hc,hm⟩:=h.shape
 obtain⟨a',c',rfl,_,hc',hm'⟩:=h'.shape
 unfold maxLen at hm hm'
 have hL:l.length<=9223372036854775807:=by omega
 have hM:m.length<=9223372036854775807:=by omega
 have H:=Lib.hid h
 have H':=Lib.hid h'
 clear h h'
 by_cases hlen:l.length=m.length
 ·have d0:(((l.length:Nat):Int) != ((m.length:Nat):Int))=false:=by simp;omega
  go_enter Tryd.func10,Tryd.ntmps10
  have HLn:=Lib.hid hlen
  rw[<- hlen] at d0 ⊢
  clear hlen
  go_wp2
  go_loopw [13] (fun ix wr=>∃ k:Nat,k<=l.length/\ix = .int .i64 k/\(∀ j,j < k->l.getD j 0=m.getD j 0)/\Nb w wr) (fun ix _=>l.length - (intOf ix).toNat)
  case atStart=>exact⟨0,Nat.zero_le _,rfl,fun j hj=>by omega,Nb.rfl⟩
  case round =>
   obtain⟨k,hk,rfl,hall,hnb⟩:=hrel
   have HA:=Lib.hid hall
   have HN:=Lib.hid hnb
   clear hall hnb
   by_cases hlt:k < l.length
   ·obtain⟨g,rfl,c1⟩:=(H.out.nb HN.out).cellA k hlt
    obtain⟨g',rfl,c2⟩:=(H'.out.nb HN.out).cellA k (by rw[<- HLn.out];exact hlt)
    have hi:(k:Int) < (l.length:Int):=by omega
    by_cases heq:l.getD k 0=m.getD k 0
    ·have HE:=Lib.hid heq
     rw[<- heq] at c2
     clear heq
     generalize l.getD k 0=x at c1 c2
     have d1:((x:Int) != (x:Int))=false:=by simp
     go_wp2_with fail
     go_quiet (fail)
     go_wp2
     go_roundw
     case rel =>
      refine⟨k+1,by omega,by go_num,fun j hj => ?_,HN.out.tr (Nb.drewN _ _)⟩
      by_cases hjk:j=k
      ·subst hjk;exact HE.out
      ·exact HA.out j (by omega)
     case measure=>simp[intOf];omega
    ·have hd:decide (l=m)=false:=decide_eq_false (fun h=>heq (by rw[h]))
     have HD:=Lib.hid hd
     have d1:(((l.getD k 0:Nat):Int) != ((m.getD k 0:Nat):Int))=true:=by rw[bne_iff_ne];omega
     generalize l.getD k 0=x at c1 d1
     generalize m.getD k 0=y at c2 d1
     clear heq hd
     go_wp2_with fail
     go_quiet (fail)
     go_wp2
     go_ret
     exact⟨by rw[HD.out];rfl,HN.out.tr (Nb.drewN _ _)⟩
   ·obtain rfl:k=l.length:=by omega
    have HD:=Lib.hid (decide_eq_true (getD_ext0 HLn.out HA.out))
    go_wp2
    go_ret
    exact⟨by rw[HD.out];rfl,HN.out⟩
 ·have d0:(((l.length:Nat):Int) != ((m.length:Nat):Int))=true:=by simp;omega
  have hd:decide (l=m)=false:=decide_eq_false (fun h=>hlen (by rw[h]))
  rw[hd]
  clear hlen hd
  go_enter Tryd.func10,Tryd.ntmps10
  go_wp2
  go_ret
  exact⟨rfl,Nb.rfl⟩
end Go.Proofs.YtkofdbccdfpllaaDoor
