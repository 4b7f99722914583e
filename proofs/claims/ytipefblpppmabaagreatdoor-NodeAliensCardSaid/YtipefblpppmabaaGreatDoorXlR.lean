
/- The document's own parts of an XL frame: the head, what stands around the data part, Way, Most; Bits as a row of its own. No conditions but sizes. -/
import Derived.Test.YtipefblpppmabaaGreatDoorXlM
import Derived.Test.YtipefblpppmabaaGreatDoorClaR
import Derived.Test.YtipefblpppmabaaGreatDoorGb
import Derived.Test.YtipefblpppmabaaGreatDoorGj
import Derived.Test.YtipefblpppmabaaGreatDoorFixR
set_option maxHeartbeats 1600000
set_option maxRecDepth 100000
namespace Go.Proofs.YtipefblpppmabaaGreatDoor
set_option linter.unusedVariables false
set_option linter.unusedSimpArgs false
open Go.RowKit
theorem refbits_fr (n size:Nat) (w:World) (hn:n < 2^64) (hs:size<=64) :
    Calls Tryz.prog 136 #[.int .u64 n,.int .i64 size] w fun e w'=>(∃ a c,e = .returned (.slice a (bitsN n size).length c)/\Fresh w w' (.slice a (bitsN n size).length c) (bitsN n size))/\Nb w w':=by
 have hm:∀ w,(Instr.makeSlice 32 (.int .i64 (size:Int)) (.int .i64 (size:Int))).run Tryz.prog w=_:=fun w=>run_makeFull w size (by omega)
 have h0:=OwnB.full w size (by omega)
 have HO:=Lib.hid h0
 have HN:=Lib.hid hn
 clear h0 hn
 go_enter Tryz.func136,Tryz.ntmps136
 go_wp2
 go_loopw [0,6] (fun m i wr=>∃ k:Nat,k<=size/\i = .int .i64 ((k:Int) - 1)/\m = .int .u64 ((n / 2^(size - k):Nat):Int)/\OwnB wr (.slice (some ⟨w.heap.size,0,none⟩) size size) (List.replicate k 0++(bitsN n size).drop k)/\Nb w wr) (fun _ i _=>(intOf i+1).toNat)
 case atStart =>
  refine⟨size,Nat.le_refl _,rfl,by simp,?_,Nb.rfl.al _⟩
  rw[List.drop_of_length_le (by rw[bitsN_length];exact Nat.le_refl _),List.append_nil]
  exact HO.out
 case round =>
  obtain⟨k,hk,rfl,rfl,ho,hnb⟩:=hrel
  cases k with
  | succ k =>
    have hlen:(List.replicate (k+1) 0++(bitsN n size).drop (k+1)).length=size:=by simp[bitsN_length];omega
    have hf:wr.frozen? ⟨w.heap.size,k,none⟩=false:=ho.frozen rfl _
    have hc:wr.cell? ⟨w.heap.size,k,none⟩=some (.int .u8 ((0:Nat):Int)):=by
     obtain⟨a,cp,hv,hbs,_⟩:=ho.bs
     obtain⟨b,o,rfl,hcl⟩:=hbs.hcells (by omega)
     simp only[Value.slice.injEq,Option.some.injEq,Addr.mk.injEq,and_true] at hv
     obtain⟨⟨rfl,rfl⟩,_,rfl⟩:=hv
     have h3:=hcl k (by omega)
     rw[Nat.zero_add] at h3
     rw[h3]
     simp[List.getD,List.getElem?_append_left,List.getElem?_replicate]
    have hq:n / 2^(size - (k+1)) < 2^64:=Nat.lt_of_le_of_lt (Nat.div_le_self _ _) HN.out
    have hset:=ho.setByte (g:=w.heap.size) rfl k (by omega) (n / 2^(size - (k+1))%2) (by omega)
    have e1:(List.replicate (k+1) 0++(bitsN n size).drop (k+1)).set k (n / 2^(size - (k+1))%2)=List.replicate k 0++(bitsN n size).drop k:=by
     rw[List.drop_eq_getElem_cons (i:=k) (by rw[bitsN_length];omega),List.replicate_succ',List.append_assoc,List.set_append_right _ _ (by simp)]
     simp[bitsN,show size - 1 - k=size - (k+1) from by omega]
    rw[e1] at hset
    have e2:n / 2^(size - (k+1)) / 2=n / 2^(size - k):=by rw[Nat.div_div_eq_div_mul,<- Nat.pow_succ,show (size - (k+1)).succ=size - k from by omega]
    have HS:=Lib.hid hset
    have HE:=Lib.hid e2
    have d1:(k:Int)+1 - 1=k:=by omega
    clear hset e1 e2 ho hlen
    rw[show ((k+1:Nat):Int) - 1=(k:Int) from by omega]
    clear d1
    generalize n / 2^(size - (k+1))=q at *
    have dq:((q%2:Nat):Int)=((q:Int)%2):=by omega
    have DQ:=Lib.hid dq
    clear dq
    go_wp2
    go_roundw
    case rel =>
     refine⟨k,by omega,rfl,?_,?_,hnb.st (by simp) _⟩
     ·rw[<- HE.out];go_num
     ·rw[<- DQ.out];exact HS.out
    case measure=>simp[intOf]
  | zero =>
    have hl:(List.replicate 0 0++(bitsN n size).drop 0)=bitsN n size:=by simp
    rw[hl] at ho
    have hfr:Fresh w wr (.slice (some ⟨w.heap.size,0,none⟩) (bitsN n size).length size) (bitsN n size):=by
     refine⟨by rw[bitsN_length];exact ho,fun g hg => ?_⟩
     simp[Value.ownBlock] at hg
     omega
    have HF:=Lib.hid hfr
    clear ho hl hfr
    go_wp2
    go_ret
    exact⟨⟨_,_,by rw[bitsN_length];rfl,HF.out⟩,hnb⟩
theorem refhead8_any (i:Nat) (w:World) (hi:i < 4294967296) :
    Calls Tryz.prog 98 #[.int .u32 i] w fun e w'=>(∃ a c,e = .returned (.slice a (headX i).length c)/\Fresh w w' (.slice a (headX i).length c) (headX i))/\Nb w w':=by
 have F1:=Lib.hid (Fresh.lit w [0] #[.int .u8 0] (by simp) 1 (by simp) (by simp) (by simp))
 have N1:=Lib.hid (Nb.rfl.al (.cells #[.int .u8 0] 5):Nb w _)
 have HI:=Lib.hid hi
 have e64:IntKind.u64.wrap (i:Int)=i:=by rw[IntKind.wrap_u64];omega
 clear hi
 go_enter Tryz.func98,Tryz.ntmps98
 go_wp2_with fail
 refine (refbits_any i 11 _ (by have:=HI.out;omega) (by omega)).mono ?_
 rintro e w2 ⟨⟨a2,d2,rfl,b2⟩,n2⟩
 have hf2:=F1.out.keep n2
 have hn2:=N1.out.tr n2
 clear n2
 go_wp2_with (at_builtin;refine wpList_appB _ rfl (.tmp 4) (.tmp 7) rfl (.slice (some ⟨w.heap.size,0,none⟩) 1 1) [0] rfl hf2.1 a2 d2 (bitsN i 11) 11 (bitsN_length _ _).symm rfl b2 (b2.noneN (bitsN_length _ _) (by omega)) (by simp[bitsN_length]) ?_)
 intro v3 w3 ho hk hg
 obtain⟨f3,n3⟩:=hf2.app0 hn2 ho hk hg
 have F3:=Lib.hid f3
 have N3:=Lib.hid n3
 clear ho hk hg hf2 hn2 b2 f3 n3
 have fl3:=Fresh.lit w3 [0,0,1,1,0] #[.int .u8 0,.int .u8 0,.int .u8 1,.int .u8 1,.int .u8 0] (by simp) 5 (by simp) (by simp) (by intro x hx;simp at hx;omega)
 have fk3:=F3.out.keep (Nb.rfl.al (.cells #[.int .u8 0,.int .u8 0,.int .u8 1,.int .u8 1,.int .u8 0] 5))
 go_wp2_with (at_builtin;refine wpList_appB _ rfl (.tmp 9) (.tmp 10) rfl v3 _ rfl fk3.1 _ _ [0,0,1,1,0] 5 rfl rfl fl3.1.asBs.1 (by simp) (by simp[bitsN_length]) ?_)
 intro v4 w4 ho hk hg
 obtain⟨f4,n4⟩:=fk3.app0 (N3.out.al _) ho hk (fun g h=>by have:=hg g h;simpa using this)
 have F4:=Lib.hid f4
 have N4:=Lib.hid n4
 clear ho hk hg fk3 fl3 f4 n4
 have f9:Fresh w w4 v4 (headX i):=by
  have h:=F4.out
  simpa [headX] using h
 obtain⟨a9,d9,rfl,_,_⟩:=f9.1.bs
 have F9:=Lib.hid f9
 clear f9
 go_wp2
 go_ret
 exact⟨⟨_,_,rfl,F9.out⟩,N4.out⟩
theorem refstart8_any (w:World):Calls Tryz.prog 99 #[] w fun e w'=>(∃ a c,e = .returned (.slice a 4 c)/\Fresh w w' (.slice a 4 c) startX)/\Nb w w':=by
 have h:=Lib.hid (Fresh.lit w startX #[.int .u8 1,.int .u8 0,.int .u8 0,.int .u8 1] (by simp[startX]) 4 (by simp[startX]) (by simp[startX]) (by simp[startX]))
 go_enter Tryz.func99,Tryz.ntmps99
 go_wp2
 go_ret
 exact⟨⟨_,_,rfl,h.out⟩,Nb.rfl.al _⟩
theorem refstop8_any (w:World):Calls Tryz.prog 101 #[] w fun e w'=>(∃ a c,e = .returned (.slice a 4 c)/\Fresh w w' (.slice a 4 c) stopX)/\Nb w w':=by
 have h:=Lib.hid (Fresh.lit w stopX #[.int .u8 0,.int .u8 1,.int .u8 1,.int .u8 0] (by simp[stopX]) 4 (by simp[stopX]) (by simp[stopX]) (by simp[stopX]))
 go_enter Tryz.func101,Tryz.ntmps101
 go_wp2
 go_ret
 exact⟨⟨_,_,rfl,h.out⟩,Nb.rfl.al _⟩
theorem refway8_any (w:World):Calls Tryz.prog 100 #[] w fun e w'=>e = .returned (.agg #[.int .i64 8,.bool false])/\Nb w w':=by
 go_enter Tryz.func100,Tryz.ntmps100
 go_wp2
 refine bodyPost_ret (v := .agg #[.int .i64 8,.bool false]) (by simp[results,Tryz.results100,go_sem]) rfl ⟨rfl,Nb.rfl.al _⟩
end Go.Proofs.YtipefblpppmabaaGreatDoor
