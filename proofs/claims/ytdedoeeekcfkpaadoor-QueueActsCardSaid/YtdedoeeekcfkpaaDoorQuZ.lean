
/- The program's queue beside the document's (layer 14's QueueActs). Condition: the tables hold what the program's text lays there. -/
import Derived.Test.YtdedoeeekcfkpaaDoorGqc
import Derived.Test.YtdedoeeekcfkpaaDoorQuE
namespace Go.Proofs.YtdedoeeekcfkpaaDoor
set_option linter.unusedVariables false
set_option linter.unusedSimpArgs false
open Go.RowKit
theorem QuX.doc {w w1 w2:World} {v:Value} {q q':Qu} {m:Nat} {P:Nat->Prop} (h:QuX w w1 v q (fun k=>P k\/k=m)) (hm:w.heap.size<=m) (t:TurnR w1 m q' P w2):∃ P',RQ w2 m q' P'/\Kp (fun k=>k=m) w1 w2/\QuX w w2 v q (fun k=>P' k\/k=m):=by
 obtain⟨P',hr,hk,hP⟩:=t
 obtain⟨F,h1,h2,h3,h4⟩:=h
 have hmlt:=h3 m (.inr rfl)
 refine⟨P',hr,hk,F,qu_keep h1 hk (fun k q r=>(h2 k q).2 (.inr r)),fun k q=>⟨(h2 k q).1,fun r => ?_⟩,fun k r => ?_,h4.trans (hk.toBelow h4.size (fun k e=>by subst e;exact hm))⟩
 ·rcases r with r | r
  ·rcases hP k r with r | r
   ·exact (h2 k q).2 (.inl r)
   ·have:=qu_lt h1 k q
    omega
  ·exact (h2 k q).2 (.inr r)
 ·rcases r with r | rfl
  ·obtain⟨_,_,_,_,_,hlt,_⟩:=hr
   exact hlt k r
  ·exact Nat.lt_of_lt_of_le hmlt hk.size
theorem refheadT_any (m:Nat) (q:Qu) (P:Nat->Prop) (w:World) (h:RQ w m q P) :
    Calls Tryd.prog 18 #[.pointer (some ⟨m,0,none⟩)] w fun e w'=>∃ a c,e = .returned (.tuple #[itV q.head (.slice a q.head.l.length c),.int .i64 (q.headE:Nat)])/\DatP w' a c q.head.l P/\TurnR w m q P w':=by
 refine (refheadQ_any m q P w h).mono ?_
 rintro e w' ⟨a,c,h1,h2,h3⟩
 exact⟨a,c,h1,h2,P,RQ.nb h h3,Kp.ofNb h3,fun k hk => .inl hk⟩
end Go.Proofs.YtdedoeeekcfkpaaDoor
