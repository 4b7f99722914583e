/- The document's own parts of an XL frame: the head, what stands around the data part, Way, Most; Bits as a row of its own. No conditions but sizes. -/
import Derived.Test.YtkofdbccdfpllaaDoorXlM
import Derived.Test.YtkofdbccdfpllaaDoorClaR
import Derived.Test.YtkofdbccdfpllaaDoorGb
import Derived.Test.YtkofdbccdfpllaaDoorGj
import Derived.Test.YtkofdbccdfpllaaDoorGq
set_option maxHeartbeats 800000
set_option maxRecDepth 100000
namespace Go.Proofs.YtkofdbccdfpllaaDoor
set_option linter.unusedVariables false
set_option linter.unusedSimpArgs false
open Go.RowKit
theorem refbits_fr (n size:Nat) (w:World) (hn:n < 2^64) (hs:size<=64) :
    Calls Tryd.prog 23 #[.int .u64 n,.int .i64 size] w fun e w'=>(∃ a c,e = .returned (.slice a (bitsN n size).length c)/\Fresh w w' (.slice a (bitsN n size).length c) (bitsN n size))/\Nb w w':=by
 have hm:∀ w,(Instr.makeSlice 35 (.int .i64 (size:Int)) (.int .i64 (size:Int))).run Tryd.prog w=_:=fun w=>run_makeFull w size (by omega)
 have h0:=OwnB.full w size (by omega)
 have HO:=Lib.hid h0
 have HN:=Lib.hid hn
 clear h0 hn
 go_enter Tryd.func23,Tryd.ntmps23
 go_wp2
 go_loopw [0,6] (fun m i wr=>∃ k:Nat,k<=size/\i = .int .i64 ((k:Int) - 1)/\m = .int .u64 ((n / 2^(size - k):Nat):Int)/\OwnB wr (.slice (some ⟨w.heap.size,0,none⟩) size size) (List.replicate k 0++(bitsN n size).drop k)/\Nb w wr) (fun _ i _=>(intOf i+1).toNat)
 case atStart =>
  refine⟨size,Nat.le_refl _,rfl,by simp,?_,Nb.rfl.al _⟩
  rw[List.drop_of_length_le (by rw[bitsN_length];exact Nat.le_refl _),List.append_nil]
  exact HO.out
 case round =>
  obtain⟨k,hk,rfl,rfl,ho,hnb⟩:=hrel
  cases k with
  | succ k =>
    have hlen:(List.replicate (k+1) 0++(bitsN n size).drop (k+1)).length=size:=by simp[bitsN_length];omega
    have hf:wr.frozen? ⟨w.heap.size,k,none⟩=false:=ho.frozen rfl _
    have hc:wr.cell? ⟨w.heap.size,k,none⟩=some (.int .u8 ((0:Nat):Int)):=by
     obtain⟨a,cp,hv,hbs,_⟩:=ho.bs
     obtain⟨b,o,rfl,hcl⟩:=hbs.hcells (by omega)
     simp only[Value.slice.injEq,Option.some.injEq,Addr.mk.injEq,and_true] at hv
     obtain⟨⟨rfl,rfl⟩,_,rfl⟩:=hv
     have h3:=hcl k (by omega)
     rw[Nat.zero_add] at h3
     rw[h3]
     simp[List.getD,List.getElem?_append_left,List.getElem?_replicate]
    have hq:n / 2^(size - (k+1)) < 2^64:=Nat.lt_of_le_of_lt (Nat.div_le_self _ _) HN.out
    have hset:=ho.setByte (g:=w.heap.size) rfl k (by omega) (n / 2^(size - (k+1))%2) (by omega)
    have e1:(List.replicate (k+1) 0++(bitsN n size).drop (k+1)).set k (n / 2^(size - (k+1))%2)=List.replicate k 0++(bitsN n size).drop k:=by
     rw[List.drop_eq_getElem_cons (i:=k) (by rw[bitsN_length];omega),List.replicate_succ',List.append_assoc,List.set_append_right _ _ (by simp)]
     simp[bitsN,show size - 1 - k=size - (k+1) from by omega]
    rw[e1] at hset
    have e2:n / 2^(size - (k+1)) / 2=n / 2^(size - k):=by rw[Nat.div_div_eq_div_mul,<- Nat.pow_succ,show (size - (k+1)).succ=size - k from by omega]
    have HS:=Lib.hid hset
    have HE:=Lib.hid e2
    have d1:(k:Int)+1 - 1=k:=by omega
    clear hset e1 e2 ho hlen
    rw[show ((k+1:Nat):Int) - 1=(k:Int) from by omega]
    clear d1
    generalize n / 2^(size - (k+1))=q at *
    have dq:((q%2:Nat):Int)=((q:Int)%2):=by omega
    have DQ:=Lib.hid dq
    clear dq
    go_wp2
    go_roundw
    case rel =>
     refine⟨k,by omega,rfl,?_,?_,hnb.st (by simp) _⟩
     ·rw[<- HE.out];go_num
     ·rw[<- DQ.out];exact HS.out
    case measure=>simp[intOf]
  | zero =>
    have hl:(List.replicate 0 0++(bitsN n size).drop 0)=bitsN n size:=by simp
    rw[hl] at ho
    have hfr:Fresh w wr (.slice (some ⟨w.heap.size,0,none⟩) (bitsN n size).length size) (bitsN n size):=by
     refine⟨by rw[bitsN_length];exact ho,fun g hg => ?_⟩
     simp[Value.ownBlock] at hg
     omega
    have HF:=Lib.hid hfr
    clear ho hl hfr
    go_wp2
    go_ret
    exact⟨⟨_,_,by rw[bitsN_length];rfl,HF.out⟩,hnb⟩
end Go.Proofs.YtkofdbccdfpllaaDoor
