
/- Contracts of the document's Tally and Tells of layer 4. No conditions. -/
import Derived.Test.YtipefblpppmabaaGreatDoorFixR
set_option maxHeartbeats 1600000
set_option maxRecDepth 100000
namespace Go.Proofs.YtipefblpppmabaaGreatDoor
set_option linter.unusedVariables false
set_option linter.unusedSimpArgs false
open Go.RowKit
theorem Bs.fourAt {w:World} {b:Nat} {t:TypeId} {x y z u:Nat} (h:Blk w b #[.int .u8 (x:Int),.int .u8 (y:Int),.int .u8 (z:Int),.int .u8 (u:Int)] t) (hx:x < 256) (hy:y < 256) (hz:z < 256) (hu:u < 256):Bs w (some ⟨b,0,none⟩) 4 [x,y,z,u] :=
 ⟨Nat.le_refl _,by simp[maxLen],by simp[hx,hy,hz,hu],fun _=>⟨_,_,rfl,fun j hj=>by
  rw[Nat.zero_add]
  match j,hj with
  | 0,_=>exact h.cell 0
  | 1,_=>exact h.cell 1
  | 2,_=>exact h.cell 2
  | 3,_=>exact h.cell 3⟩⟩
theorem Blk.al {w:World} {R:Nat} {cs:Array Value} {t:TypeId} (h:Blk w R cs t) (o:Obj):Blk (w.alloc o) R cs t:=h.nb (Nb.rfl.al o)
def al1 (w:World):World:=(w).alloc (.cells #[.int .u8 0,.int .u8 0,.int .u8 0,.int .u8 0] 5)
theorem al1_size (w:World):(al1 w).heap.size=w.heap.size+1:=by unfold al1;simp
theorem al1_nb (w:World):Nb w (al1 w):=Nb.rfl.al _
def al2 (w:World):World:=(al1 w).alloc (.cells #[.int .u8 0,.int .u8 0,.int .u8 1,.int .u8 1] 5)
theorem al2_size (w:World):(al2 w).heap.size=w.heap.size+2:=by unfold al2;simp[al1_size]
theorem al2_nb (w:World):Nb w (al2 w):=(al1_nb w).al _
def al3 (w:World):World:=(al2 w).alloc (.cells #[.int .u8 0,.int .u8 1,.int .u8 1,.int .u8 0] 5)
theorem al3_size (w:World):(al3 w).heap.size=w.heap.size+3:=by unfold al3;simp[al2_size]
theorem al3_nb (w:World):Nb w (al3 w):=(al2_nb w).al _
def al4 (w:World):World:=(al3 w).alloc (.cells #[.int .u8 0,.int .u8 1,.int .u8 0,.int .u8 1] 5)
theorem al4_size (w:World):(al4 w).heap.size=w.heap.size+4:=by unfold al4;simp[al3_size]
theorem al4_nb (w:World):Nb w (al4 w):=(al3_nb w).al _
def al5 (w:World):World:=(al4 w).alloc (.cells #[.int .u8 1,.int .u8 1,.int .u8 0,.int .u8 0] 5)
theorem al5_size (w:World):(al5 w).heap.size=w.heap.size+5:=by unfold al5;simp[al4_size]
theorem al5_nb (w:World):Nb w (al5 w):=(al4_nb w).al _
def al6 (w:World):World:=(al5 w).alloc (.cells #[.int .u8 1,.int .u8 1,.int .u8 1,.int .u8 1] 5)
theorem al6_size (w:World):(al6 w).heap.size=w.heap.size+6:=by unfold al6;simp[al5_size]
theorem al6_nb (w:World):Nb w (al6 w):=(al5_nb w).al _
def al7 (w:World):World:=(al6 w).alloc (.cells #[.int .u8 1,.int .u8 0,.int .u8 1,.int .u8 0] 5)
theorem al7_size (w:World):(al7 w).heap.size=w.heap.size+7:=by unfold al7;simp[al6_size]
theorem al7_nb (w:World):Nb w (al7 w):=(al6_nb w).al _
def al8 (w:World):World:=(al7 w).alloc (.cells #[.int .u8 1,.int .u8 0,.int .u8 0,.int .u8 1] 5)
theorem al8_nb (w:World):Nb w (al8 w):=(al7_nb w).al _
theorem al8_blk (w:World) (r:Nat) (h:r < 8):Bs (al8 w) (some ⟨w.heap.size+r,0,none⟩) 4 (tallyL r):=by
 rcases (by omega:r=0\/r=1\/r=2\/r=3\/r=4\/r=5\/r=6\/r=7) with rfl | rfl | rfl | rfl | rfl | rfl | rfl | rfl
 ·have h0:=Blk.new (w) #[.int .u8 0,.int .u8 0,.int .u8 0,.int .u8 0] 5
  exact Bs.fourAt (x:=0) (y:=0) (z:=0) (u:=0) (t:=5) (((((((h0.al _).al _).al _).al _).al _).al _).al _) (by decide) (by decide) (by decide) (by decide)
 ·have h0:=Blk.new (al1 w) #[.int .u8 0,.int .u8 0,.int .u8 1,.int .u8 1] 5
  rw[al1_size] at h0
  exact Bs.fourAt (x:=0) (y:=0) (z:=1) (u:=1) (t:=5) ((((((h0.al _).al _).al _).al _).al _).al _) (by decide) (by decide) (by decide) (by decide)
 ·have h0:=Blk.new (al2 w) #[.int .u8 0,.int .u8 1,.int .u8 1,.int .u8 0] 5
  rw[al2_size] at h0
  exact Bs.fourAt (x:=0) (y:=1) (z:=1) (u:=0) (t:=5) (((((h0.al _).al _).al _).al _).al _) (by decide) (by decide) (by decide) (by decide)
 ·have h0:=Blk.new (al3 w) #[.int .u8 0,.int .u8 1,.int .u8 0,.int .u8 1] 5
  rw[al3_size] at h0
  exact Bs.fourAt (x:=0) (y:=1) (z:=0) (u:=1) (t:=5) ((((h0.al _).al _).al _).al _) (by decide) (by decide) (by decide) (by decide)
 ·have h0:=Blk.new (al4 w) #[.int .u8 1,.int .u8 1,.int .u8 0,.int .u8 0] 5
  rw[al4_size] at h0
  exact Bs.fourAt (x:=1) (y:=1) (z:=0) (u:=0) (t:=5) (((h0.al _).al _).al _) (by decide) (by decide) (by decide) (by decide)
 ·have h0:=Blk.new (al5 w) #[.int .u8 1,.int .u8 1,.int .u8 1,.int .u8 1] 5
  rw[al5_size] at h0
  exact Bs.fourAt (x:=1) (y:=1) (z:=1) (u:=1) (t:=5) ((h0.al _).al _) (by decide) (by decide) (by decide) (by decide)
 ·have h0:=Blk.new (al6 w) #[.int .u8 1,.int .u8 0,.int .u8 1,.int .u8 0] 5
  rw[al6_size] at h0
  exact Bs.fourAt (x:=1) (y:=0) (z:=1) (u:=0) (t:=5) (h0.al _) (by decide) (by decide) (by decide) (by decide)
 ·have h0:=Blk.new (al7 w) #[.int .u8 1,.int .u8 0,.int .u8 0,.int .u8 1] 5
  rw[al7_size] at h0
  exact Bs.fourAt (x:=1) (y:=0) (z:=0) (u:=1) (t:=5) h0 (by decide) (by decide) (by decide) (by decide)
theorem reftally_0 (n:Nat) (w:World) (hr:Int.tmod (n:Int) 8=0) :
    Calls Tryz.prog 90 #[.int .i64 n] w fun e w'=>e = .returned (.tuple #[.slice (some ⟨w.heap.size+0,0,none⟩) 4 4,.int .i64 0])/\w'=al8 w:=by
 have d1:decide ((n:Int) < 0)=false:=by simp
 have hidx:∀ (s0 s1 s2 s3 s4 s5 s6 s7:Value) (w:World),(Instr.index 152 (.agg #[s0,s1,s2,s3,s4,s5,s6,s7]) (.int .i64 0)).run Tryz.prog w = .ok s0 w:=by
  intro s0 s1 s2 s3 s4 s5 s6 s7 w
  kernel_rfl
 go_enter Tryz.func90,Tryz.ntmps90
 go_wp2
 go_ret2
 exact⟨rfl,rfl⟩
theorem reftally_1 (n:Nat) (w:World) (hr:Int.tmod (n:Int) 8=1) :
    Calls Tryz.prog 90 #[.int .i64 n] w fun e w'=>e = .returned (.tuple #[.slice (some ⟨w.heap.size+1,0,none⟩) 4 4,.int .i64 0])/\w'=al8 w:=by
 have d1:decide ((n:Int) < 0)=false:=by simp
 have hidx:∀ (s0 s1 s2 s3 s4 s5 s6 s7:Value) (w:World),(Instr.index 152 (.agg #[s0,s1,s2,s3,s4,s5,s6,s7]) (.int .i64 1)).run Tryz.prog w = .ok s1 w:=by
  intro s0 s1 s2 s3 s4 s5 s6 s7 w
  kernel_rfl
 go_enter Tryz.func90,Tryz.ntmps90
 go_wp2
 go_ret2
 exact⟨rfl,rfl⟩
theorem reftally_2 (n:Nat) (w:World) (hr:Int.tmod (n:Int) 8=2) :
    Calls Tryz.prog 90 #[.int .i64 n] w fun e w'=>e = .returned (.tuple #[.slice (some ⟨w.heap.size+2,0,none⟩) 4 4,.int .i64 0])/\w'=al8 w:=by
 have d1:decide ((n:Int) < 0)=false:=by simp
 have hidx:∀ (s0 s1 s2 s3 s4 s5 s6 s7:Value) (w:World),(Instr.index 152 (.agg #[s0,s1,s2,s3,s4,s5,s6,s7]) (.int .i64 2)).run Tryz.prog w = .ok s2 w:=by
  intro s0 s1 s2 s3 s4 s5 s6 s7 w
  kernel_rfl
 go_enter Tryz.func90,Tryz.ntmps90
 go_wp2
 go_ret2
 exact⟨rfl,rfl⟩
theorem reftally_3 (n:Nat) (w:World) (hr:Int.tmod (n:Int) 8=3) :
    Calls Tryz.prog 90 #[.int .i64 n] w fun e w'=>e = .returned (.tuple #[.slice (some ⟨w.heap.size+3,0,none⟩) 4 4,.int .i64 0])/\w'=al8 w:=by
 have d1:decide ((n:Int) < 0)=false:=by simp
 have hidx:∀ (s0 s1 s2 s3 s4 s5 s6 s7:Value) (w:World),(Instr.index 152 (.agg #[s0,s1,s2,s3,s4,s5,s6,s7]) (.int .i64 3)).run Tryz.prog w = .ok s3 w:=by
  intro s0 s1 s2 s3 s4 s5 s6 s7 w
  kernel_rfl
 go_enter Tryz.func90,Tryz.ntmps90
 go_wp2
 go_ret2
 exact⟨rfl,rfl⟩
theorem reftally_4 (n:Nat) (w:World) (hr:Int.tmod (n:Int) 8=4) :
    Calls Tryz.prog 90 #[.int .i64 n] w fun e w'=>e = .returned (.tuple #[.slice (some ⟨w.heap.size+4,0,none⟩) 4 4,.int .i64 0])/\w'=al8 w:=by
 have d1:decide ((n:Int) < 0)=false:=by simp
 have hidx:∀ (s0 s1 s2 s3 s4 s5 s6 s7:Value) (w:World),(Instr.index 152 (.agg #[s0,s1,s2,s3,s4,s5,s6,s7]) (.int .i64 4)).run Tryz.prog w = .ok s4 w:=by
  intro s0 s1 s2 s3 s4 s5 s6 s7 w
  kernel_rfl
 go_enter Tryz.func90,Tryz.ntmps90
 go_wp2
 go_ret2
 exact⟨rfl,rfl⟩
theorem reftally_5 (n:Nat) (w:World) (hr:Int.tmod (n:Int) 8=5) :
    Calls Tryz.prog 90 #[.int .i64 n] w fun e w'=>e = .returned (.tuple #[.slice (some ⟨w.heap.size+5,0,none⟩) 4 4,.int .i64 0])/\w'=al8 w:=by
 have d1:decide ((n:Int) < 0)=false:=by simp
 have hidx:∀ (s0 s1 s2 s3 s4 s5 s6 s7:Value) (w:World),(Instr.index 152 (.agg #[s0,s1,s2,s3,s4,s5,s6,s7]) (.int .i64 5)).run Tryz.prog w = .ok s5 w:=by
  intro s0 s1 s2 s3 s4 s5 s6 s7 w
  kernel_rfl
 go_enter Tryz.func90,Tryz.ntmps90
 go_wp2
 go_ret2
 exact⟨rfl,rfl⟩
theorem reftally_6 (n:Nat) (w:World) (hr:Int.tmod (n:Int) 8=6) :
    Calls Tryz.prog 90 #[.int .i64 n] w fun e w'=>e = .returned (.tuple #[.slice (some ⟨w.heap.size+6,0,none⟩) 4 4,.int .i64 0])/\w'=al8 w:=by
 have d1:decide ((n:Int) < 0)=false:=by simp
 have hidx:∀ (s0 s1 s2 s3 s4 s5 s6 s7:Value) (w:World),(Instr.index 152 (.agg #[s0,s1,s2,s3,s4,s5,s6,s7]) (.int .i64 6)).run Tryz.prog w = .ok s6 w:=by
  intro s0 s1 s2 s3 s4 s5 s6 s7 w
  kernel_rfl
 go_enter Tryz.func90,Tryz.ntmps90
 go_wp2
 go_ret2
 exact⟨rfl,rfl⟩
theorem reftally_7 (n:Nat) (w:World) (hr:Int.tmod (n:Int) 8=7) :
    Calls Tryz.prog 90 #[.int .i64 n] w fun e w'=>e = .returned (.tuple #[.slice (some ⟨w.heap.size+7,0,none⟩) 4 4,.int .i64 0])/\w'=al8 w:=by
 have d1:decide ((n:Int) < 0)=false:=by simp
 have hidx:∀ (s0 s1 s2 s3 s4 s5 s6 s7:Value) (w:World),(Instr.index 152 (.agg #[s0,s1,s2,s3,s4,s5,s6,s7]) (.int .i64 7)).run Tryz.prog w = .ok s7 w:=by
  intro s0 s1 s2 s3 s4 s5 s6 s7 w
  kernel_rfl
 go_enter Tryz.func90,Tryz.ntmps90
 go_wp2
 go_ret2
 exact⟨rfl,rfl⟩
theorem reftally_any (n:Nat) (w:World) :
    Calls Tryz.prog 90 #[.int .i64 n] w fun e w'=>AnsB (tallyL n) 0 e w'/\Nb w w':=by
 have hr:Int.tmod (n:Int) 8=((n%8:Nat):Int):=tmod_nat n 8
 have h8:=Nat.mod_lt n (show 0 < 8 by omega)
 rw[tallyL_mod]
 generalize n%8=r at *
 have hfin:∀ e w',(e = .returned (.tuple #[.slice (some ⟨w.heap.size+r,0,none⟩) 4 4,.int .i64 0])/\w'=al8 w)->AnsB (tallyL r) 0 e w'/\Nb w w':=by
  rintro e w' ⟨rfl,rfl⟩
  exact⟨⟨_,_,by rw[tallyL_len];rfl,al8_blk w r h8⟩,al8_nb w⟩
 rcases (by omega:r=0\/r=1\/r=2\/r=3\/r=4\/r=5\/r=6\/r=7) with rfl | rfl | rfl | rfl | rfl | rfl | rfl | rfl
 ·exact (reftally_0 n w hr).mono hfin
 ·exact (reftally_1 n w hr).mono hfin
 ·exact (reftally_2 n w hr).mono hfin
 ·exact (reftally_3 n w hr).mono hfin
 ·exact (reftally_4 n w hr).mono hfin
 ·exact (reftally_5 n w hr).mono hfin
 ·exact (reftally_6 n w hr).mono hfin
 ·exact (reftally_7 n w hr).mono hfin
end Go.Proofs.YtipefblpppmabaaGreatDoor
