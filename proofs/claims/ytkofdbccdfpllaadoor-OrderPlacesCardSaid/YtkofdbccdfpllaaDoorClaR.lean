
/- The document's own bits of a Classic frame: Bit, Tail, the head. No conditions but sizes. -/
import Derived.Test.YtkofdbccdfpllaaDoorClaP
import Derived.Test.YtkofdbccdfpllaaDoorGt
import Derived.Test.YtkofdbccdfpllaaDoorGr
set_option maxHeartbeats 400000
set_option maxRecDepth 100000
namespace Go.Proofs.YtkofdbccdfpllaaDoor
set_option linter.unusedVariables false
set_option linter.unusedSimpArgs false
open Go.RowKit
theorem OwnB.lit (w:World) (l:List Nat) (cs:Array Value) (hc:cs.toList=l.map fun x:Nat=>Value.int .u8 (x:Int)) (n:Nat) (hn:n=l.length) (hl:l.length<=1000) (hb:∀ x∈l,x < 256) :
    OwnB (w.alloc (.cells cs 5)) (.slice (some ⟨w.heap.size,0,none⟩) n n) l:=by
 subst hn
 refine⟨⟨by simp,.inr ⟨w.heap.size,l.length,cs,rfl,Nat.zero_le _,heap_alloc_new w _,Nat.le_refl _,by unfold maxLen;omega,?_,?_⟩⟩,hb⟩
 ·rw[<- Array.length_toList,hc];simp
 ·rw[hc];simp[List.take_of_length_le]
theorem refbit6_any (b:Bool) (w:World):Calls Tryd.prog 24 #[.bool b] w fun e w'=>e = .returned (.int .u8 (bitB b:Nat))/\w=w':=by
 cases b
 all_goals go_enter Tryd.func24,Tryd.ntmps24
 all_goals go_wp2
 all_goals go_ret
 all_goals exact⟨rfl,rfl⟩
theorem Fresh.app0 {w0 w w':World} {v v':Value} {l l':List Nat} (h:Fresh w0 w v l) (hnb:Nb w0 w) (ho:OwnB w' v' l') (hk:Kp (fun k=>v.ownBlock=some k) w w') (hf:∀ g,v'.ownBlock=some g->v.ownBlock=some g\/w.heap.size<=g):Fresh w0 w' v' l'/\Nb w0 w':=by
 have hs:=hnb.size
 refine⟨⟨ho,fun g hg => ?_⟩,hnb.trans (hk.toBelow hs h.2)⟩
 rcases hf g hg with h1 | h1
 ·exact h.2 g h1
 ·omega
theorem Fresh.lit (w:World) (l:List Nat) (cs:Array Value) (hc:cs.toList=l.map fun x:Nat=>Value.int .u8 (x:Int)) (n:Nat) (hn:n=l.length) (hl:l.length<=1000) (hb:∀ x∈l,x < 256) :
    Fresh w (w.alloc (.cells cs 5)) (.slice (some ⟨w.heap.size,0,none⟩) n n) l:=⟨OwnB.lit w l cs hc n hn hl hb,by intro g hg;simp[Value.ownBlock] at hg;omega⟩
theorem Bs.noneN {w:World} {a:Option Addr} {c n:Nat} {l:List Nat} (h:Bs w a c l) (hn:l.length=n) (h0:0 < n):a=none->n=0/\c=0:=by
 rintro rfl
 have:=h.none_len
 subst this
 simp at hn
 omega
theorem Fresh.less {w w1 w2:World} {v:Value} {l:List Nat} (h:Fresh w1 w2 v l) (hs:w.heap.size<=w1.heap.size):Fresh w w2 v l:=⟨h.1,fun g hg=>Nat.le_trans hs (h.2 g hg)⟩
end Go.Proofs.YtkofdbccdfpllaaDoor
