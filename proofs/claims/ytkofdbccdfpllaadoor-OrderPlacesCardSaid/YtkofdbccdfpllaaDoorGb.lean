/- Contracts of Get, Bytes and Pack. Condition: at most a million bytes. Contracts of each over a text, of Text, and what a list of bytes is as a string. No conditions but those of sizes. Contracts of the reader and of Read. Condition: a text below 2 to the 47. Contracts of the document's Bits, Put, Get, Bytes, Pack and Text. Condition: at most a million bytes. The document's own bits of bytes, with the word on an answer that is nil. Condition: at most a million bytes. Contract of the document's Read. Condition: a text below 2 to the 46. The document's examples of layer 1 hold; and a slice of bytes that came in reads as a list. No conditions. Each function of layer 1 and the document's own answer the same, right or wrong, in one sentence each. Conditions: sizes below 2 to the 46. -/
import Derived.Test.YtkofdbccdfpllaaDoorGa
import Derived.RegionTactic
set_option maxHeartbeats 800000
set_option maxRecDepth 100000
/-
 Get,Bytes,Pack.
-/
namespace Go.Proofs.YtkofdbccdfpllaaDoor
set_option linter.unusedVariables false
set_option linter.unusedSimpArgs false
open Go.RowKit
def getOk (l:List Nat):Bool:=decide (l.length<=64)&&chk l
end Go.Proofs.YtkofdbccdfpllaaDoor
/-
 Read.
-/
namespace Go.Proofs.YtkofdbccdfpllaaDoor
set_option linter.unusedVariables false
set_option linter.unusedSimpArgs false
open Go.RowKit
def okLetter (c:Nat):Bool:=decide (c=32)||decide (c=48)||decide (c=49)
def rdBits (s:List Nat):List Nat:=(s.filter fun c=>decide (c≠32)).map (· - 48)
def rdOk (s:List Nat):Bool:=s.all okLetter&&decide ((rdBits s).length<=65536)
theorem rdBits_snoc (s:List Nat) (c:Nat):rdBits (s++[c])=if c=32 then rdBits s else rdBits s++[c - 48]:=by
 by_cases h:c=32<;>simp[rdBits,h]
theorem rdOk_snoc (s:List Nat) (c:Nat) (h:rdOk s=true):rdOk (s++[c])=(okLetter c&&(decide (c=32)||decide ((rdBits s).length < 65536))):=by
 simp only[rdOk,Bool.and_eq_true,decide_eq_true_eq] at h
 obtain⟨h1,h2⟩:=h
 simp only[rdOk,List.all_append,h1,Bool.true_and,List.all_cons,List.all_nil,Bool.and_true]
 rw[rdBits_snoc]
 by_cases h:c=32
 ·simp[h,h2]
 ·simp only[h,if_false,decide_false,Bool.false_or,List.length_append,List.length_singleton]
  congr 1
theorem rdOk_snoc_bad (s:List Nat) (c:Nat) (h:rdOk s=false):rdOk (s++[c])=false:=by
 cases hh:rdOk (s++[c]) with
 | false=>rfl
 | true =>
   simp only[rdOk,Bool.and_eq_true,decide_eq_true_eq,List.all_append] at hh
   rw[rdBits_snoc] at hh
   have:rdOk s=true:=by
    simp only[rdOk,Bool.and_eq_true,decide_eq_true_eq]
    refine⟨hh.1.1,?_⟩
    have h2:=hh.2
    by_cases h:c=32
    ·rwa[if_pos h] at h2
    ·rw[if_neg h,List.length_append] at h2;omega
   rw[this] at h
   cases h
theorem rdBits_le (s:List Nat) (h:s.all okLetter=true):∀ x∈rdBits s,x<=1:=by
 intro x hx
 obtain⟨c,hc,rfl⟩:=List.mem_map.1 hx
 obtain⟨h1,h2⟩:=List.mem_filter.1 hc
 have:=List.all_eq_true.1 h c h1
 simp only[okLetter,Bool.or_eq_true,decide_eq_true_eq] at this
 simp only[decide_eq_true_eq] at h2
 omega
def ReadPost (s:List Nat) (e:Ending) (w':World):Prop :=
 (rdOk s=true/\∃ a c,e = .returned (.tuple #[.slice a (rdBits s).length c,.int .i64 0])/\Bs w' a c (rdBits s))\/(rdOk s=false/\e = .returned (.tuple #[.slice none 0 0,.int .i64 2]))
end Go.Proofs.YtkofdbccdfpllaaDoor
/-
 The document's answers.
-/
namespace Go.Proofs.YtkofdbccdfpllaaDoor
set_option linter.unusedVariables false
set_option linter.unusedSimpArgs false
open Go.RowKit
theorem refbits_any (n size:Nat) (w:World) (hn:n < 2^64) (hs:size<=64) :
    Calls Tryd.prog 23 #[.int .u64 n,.int .i64 size] w fun e w'=>(∃ a c,e = .returned (.slice a size c)/\Bs w' a c (bitsN n size))/\Nb w w':=by
 have hm:∀ w,(Instr.makeSlice 35 (.int .i64 (size:Int)) (.int .i64 (size:Int))).run Tryd.prog w=_:=fun w=>run_makeFull w size (by omega)
 have h0:=OwnB.full w size (by omega)
 have HO:=Lib.hid h0
 have HN:=Lib.hid hn
 clear h0 hn
 go_enter Tryd.func23,Tryd.ntmps23
 go_wp2
 go_loopw [0,6] (fun m i wr=>∃ k:Nat,k<=size/\i = .int .i64 ((k:Int) - 1)/\m = .int .u64 ((n / 2^(size - k):Nat):Int)/\OwnB wr (.slice (some ⟨w.heap.size,0,none⟩) size size) (List.replicate k 0++(bitsN n size).drop k)/\Nb w wr) (fun _ i _=>(intOf i+1).toNat)
 case atStart =>
  refine⟨size,Nat.le_refl _,rfl,by simp,?_,Nb.rfl.al _⟩
  rw[List.drop_of_length_le (by rw[bitsN_length];exact Nat.le_refl _),List.append_nil]
  exact HO.out
 case round =>
  obtain⟨k,hk,rfl,rfl,ho,hnb⟩:=hrel
  cases k with
  | succ k =>
    have hlen:(List.replicate (k+1) 0++(bitsN n size).drop (k+1)).length=size:=by simp[bitsN_length];omega
    have hf:wr.frozen? ⟨w.heap.size,k,none⟩=false:=ho.frozen rfl _
    have hc:wr.cell? ⟨w.heap.size,k,none⟩=some (.int .u8 ((0:Nat):Int)):=by
     obtain⟨a,cp,hv,hbs,_⟩:=ho.bs
     obtain⟨b,o,rfl,hcl⟩:=hbs.hcells (by omega)
     simp only[Value.slice.injEq,Option.some.injEq,Addr.mk.injEq,and_true] at hv
     obtain⟨⟨rfl,rfl⟩,_,rfl⟩:=hv
     have h3:=hcl k (by omega)
     rw[Nat.zero_add] at h3
     rw[h3]
     simp[List.getD,List.getElem?_append_left,List.getElem?_replicate]
    have hq:n / 2^(size - (k+1)) < 2^64:=Nat.lt_of_le_of_lt (Nat.div_le_self _ _) HN.out
    have hset:=ho.setByte (g:=w.heap.size) rfl k (by omega) (n / 2^(size - (k+1))%2) (by omega)
    have e1:(List.replicate (k+1) 0++(bitsN n size).drop (k+1)).set k (n / 2^(size - (k+1))%2)=List.replicate k 0++(bitsN n size).drop k:=by
     rw[List.drop_eq_getElem_cons (i:=k) (by rw[bitsN_length];omega),List.replicate_succ',List.append_assoc,List.set_append_right _ _ (by simp)]
     simp[bitsN,show size - 1 - k=size - (k+1) from by omega]
    rw[e1] at hset
    have e2:n / 2^(size - (k+1)) / 2=n / 2^(size - k):=by rw[Nat.div_div_eq_div_mul,<- Nat.pow_succ,show (size - (k+1)).succ=size - k from by omega]
    have HS:=Lib.hid hset
    have HE:=Lib.hid e2
    have d1:(k:Int)+1 - 1=k:=by omega
    clear hset e1 e2 ho hlen
    rw[show ((k+1:Nat):Int) - 1=(k:Int) from by omega]
    clear d1
    generalize n / 2^(size - (k+1))=q at *
    have dq:((q%2:Nat):Int)=((q:Int)%2):=by omega
    have DQ:=Lib.hid dq
    clear dq
    go_wp2
    go_roundw
    case rel =>
     refine⟨k,by omega,rfl,?_,?_,hnb.st (by simp) _⟩
     ·rw[<- HE.out];go_num
     ·rw[<- DQ.out];exact HS.out
    case measure=>simp[intOf]
  | zero =>
    have hl:(List.replicate 0 0++(bitsN n size).drop 0)=bitsN n size:=by simp
    rw[hl] at ho
    obtain⟨a,c,hv,hbs,_⟩:=ho.bs
    simp only[Value.slice.injEq,bitsN_length,true_and] at hv
    obtain⟨rfl,rfl⟩:=hv
    clear ho hl
    go_wp2
    go_ret
    exact⟨⟨_,_,rfl,hbs⟩,hnb⟩
theorem packN_take_succ (l:List Nat) (m:Nat) (h:m < l.length / 8):(packN l).take (m+1)=(packN l).take m++[numN ((l.drop (8*m)).take 8)] :=
 take_snoc' (by simp only[packN,List.getElem?_map,List.getElem?_range h,Option.map_some])
end Go.Proofs.YtkofdbccdfpllaaDoor
namespace Go.Proofs.YtkofdbccdfpllaaDoor
set_option linter.unusedVariables false
set_option linter.unusedSimpArgs false
open Go.RowKit
theorem rdBits_length_le (s:List Nat):(rdBits s).length<=s.length:=by
 unfold rdBits
 rw[List.length_map]
 exact List.length_filter_le _ _
theorem rdOk_false_of (s:List Nat) (k c:Nat) (hc:s[k]? = some c) (h:okLetter c=false):rdOk s=false:=by
 cases hh:rdOk s with
 | false=>rfl
 | true =>
   simp only[rdOk,Bool.and_eq_true] at hh
   have:=List.all_eq_true.1 hh.1 c (List.mem_of_getElem? hc)
   rw[h] at this
   cases this
end Go.Proofs.YtkofdbccdfpllaaDoor
namespace Go.Proofs.YtkofdbccdfpllaaDoor
set_option linter.unusedVariables false
set_option linter.unusedSimpArgs false
open Go.RowKit
theorem isRun3 {k:Nat} (h:IsRun [0,1,1,1] k):k=3:=h.uniq ⟨by decide,by decide,by decide⟩
theorem Bs.four (w:World) (t:TypeId):Bs (w.alloc (.cells #[.int .u8 0,.int .u8 1,.int .u8 1,.int .u8 1] t)) (some ⟨w.heap.size,0,none⟩) 4 [0,1,1,1] :=
 ⟨Nat.le_refl _,by simp[maxLen],by simp,fun _=>⟨_,_,rfl,fun j hj=>by
  match j,hj with
  | 0,_=>simp
  | 1,_=>simp
  | 2,_=>simp
  | 3,_=>simp⟩⟩
end Go.Proofs.YtkofdbccdfpllaaDoor
/-
 Each function's answer in one sentence,right or wrong.
-/
namespace Go.Proofs.YtkofdbccdfpllaaDoor
set_option linter.unusedVariables false
set_option linter.unusedSimpArgs false
open Go.RowKit
open Classical in
noncomputable def bputL (n:Nat) (size:Int):List Nat:=if PutOk n size then bitsN n size.toNat else []
open Classical in
noncomputable def putE (n:Nat) (size:Int):Nat:=if PutOk n size then 0 else 2
def getN (l:List Nat):Nat:=if getOk l then numN l else 0
def getE (l:List Nat):Nat:=if getOk l then 0 else 2
def packL (l:List Nat):List Nat:=if chk l then (if l.length%8=0 then packN l else []) else []
def packE (l:List Nat):Nat:=if chk l then (if l.length%8=0 then 0 else 3) else 2
def textL (l:List Nat):List Nat:=if chk l then l.map (48+·) else []
def readL (s:List Nat):List Nat:=if rdOk s then rdBits s else []
def readE (s:List Nat):Nat:=if rdOk s then 0 else 2
def bytesBits (l:List Nat):List Nat:=l.flatMap fun x=>bitsN x 8
theorem bytesBits_len (l:List Nat):(bytesBits l).length=8*l.length:=by
 induction l with
 | nil=>rfl
 | cons x l ih =>
   unfold bytesBits at *
   rw[List.flatMap_cons,List.length_append,ih,bitsN_length,List.length_cons];omega
theorem bytesBits_chk (l:List Nat) (h:l.length<=8192):chk (bytesBits l)=true:=by
 simp only[chk,bytesBits_len,Bool.and_eq_true,decide_eq_true_eq,List.all_eq_true]
 refine⟨by omega,fun x hx => ?_⟩
 obtain⟨y,_,hy⟩:=List.mem_flatMap.1 hx
 have:=bitsN_lt y 8 x hy
 omega
end Go.Proofs.YtkofdbccdfpllaaDoor
