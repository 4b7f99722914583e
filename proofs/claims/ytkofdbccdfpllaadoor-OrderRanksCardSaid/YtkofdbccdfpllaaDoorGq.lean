/- Contracts of the document's Size, Raw, Put and Get of layer 4. No conditions. -/
import Derived.Test.YtkofdbccdfpllaaDoorGx
namespace Go.Proofs.YtkofdbccdfpllaaDoor
set_option linter.unusedVariables false
set_option linter.unusedSimpArgs false
open Go.RowKit
theorem tmod_nat (a b:Nat):Int.tmod (a:Int) (b:Int)=((a%b:Nat):Int):=by rw[Int.tmod_eq_emod_of_nonneg (by omega)];push_cast;rfl
theorem beq0 (q:Nat):((q:Int)==0)=decide (q=0):=by
 by_cases h:q=0
 ·subst h;rfl
 ·rw[decide_eq_false h,beq_eq_false_iff_ne];omega
theorem cons_last (p:Nat) (P:List Nat):(p::P).getD P.length 0=lastP p P:=by
 unfold lastP
 by_cases h:P=[]
 ·subst h;rfl
 ·rw[if_neg h]
  have:0 < P.length:=List.length_pos_iff.2 h
  obtain⟨m,hm⟩:∃ m,P.length=m+1:=⟨P.length - 1,by omega⟩
  rw[hm,Nat.add_sub_cancel]
  simp[List.getD]
theorem OwnB.one1 (w:World) (x:Nat) (hx:x < 256):OwnB (w.alloc (.cells #[.int .u8 (x:Int)] 5)) (.slice (some ⟨w.heap.size,0,none⟩) 1 1) [x] :=
 ⟨⟨by simp,.inr ⟨w.heap.size,1,#[.int .u8 (x:Int)],by simp,Nat.zero_le _,heap_alloc_new w _,by simp,by simp[maxLen],by simp,by simp⟩⟩,by simpa using hx⟩
end Go.Proofs.YtkofdbccdfpllaaDoor
