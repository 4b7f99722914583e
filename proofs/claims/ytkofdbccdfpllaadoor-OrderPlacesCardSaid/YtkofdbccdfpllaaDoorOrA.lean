
/- The document's examples of layer 10. Condition: the table of longer sizes holds what the program's text lays there. -/
import Derived.Test.YtkofdbccdfpllaaDoorGor
import Derived.Test.YtkofdbccdfpllaaDoorClaR
set_option maxHeartbeats 3200000
set_option maxRecDepth 100000
namespace Go.Proofs.YtkofdbccdfpllaaDoor
set_option linter.unusedVariables false
set_option linter.unusedSimpArgs false
open Go.RowKit
def lv1:Hd:=⟨1,5,false,false,false,false,false,0,0,0⟩
def lv2:Hd:=⟨2,5,false,false,false,false,false,0,0,0⟩
def lv3:Hd:=⟨3,5,false,false,false,false,false,0,0,0⟩
def lv4:Hd:=⟨1,1310720,true,false,false,false,false,0,0,0⟩
theorem lv_12:cmpV lv1 lv2 [] [] = -1/\cmpE lv1 lv2 [] []=0:=by decide +kernel
theorem lv_32:cmpV lv3 lv2 [1] []=1/\cmpE lv3 lv2 [1] []=0:=by decide +kernel
theorem lv_43:cmpV lv4 lv3 [] [1]=1/\cmpE lv4 lv3 [] [1]=0:=by decide +kernel
theorem alive10_any (w:World) (hl:Longer w):Calls Tryd.prog 5 #[] w fun e w'=>e = .returned (.bool true)/\Nb w w':=by
 have c1:=fun w' (n:Nb w w')=>compare_any lv1 lv2 none none 0 0 [] [] w' (Bs.nil _) (Bs.nil _) (by simp[lv1]) (by simp[lv2]) (hl.below n)
 have c2:=fun w' (n:Nb w w') (a:Option Addr) (c:Nat) (h:Bs w' a c [1])=>compare_any lv3 lv2 a none c 0 [1] [] w' h (Bs.nil _) (by simp[lv3]) (by simp[lv2]) (hl.below n)
 have c3:=fun w' (n:Nb w w') (a:Option Addr) (c:Nat) (h:Bs w' a c [1])=>compare_any lv4 lv3 none a 0 c [] [1] w' (Bs.nil _) h (by simp[lv4]) (by simp[lv3]) (hl.below n)
 unfold AnsC at c1 c2 c3
 rw[lv_12.1,lv_12.2] at c1
 rw[lv_32.1,lv_32.2] at c2
 rw[lv_43.1,lv_43.2] at c3
 simp only[Hd.cs,lv1,lv2,lv3,lv4,List.length_nil,List.length_singleton] at c1 c2 c3
 have C1:=Lib.hid c1
 have C2:=Lib.hid c2
 have C3:=Lib.hid c3
 clear c1 c2 c3 hl
 go_enter Tryd.func5,Tryd.ntmps5
 go_wp2_with fail
 refine (C1.out _ Nb.rfl).mono ?_
 rintro e w1 ⟨rfl,n1⟩
 have N1:=Lib.hid n1
 have F1:=Lib.hid (Fresh.lit w1 [1] #[.int .u8 1] (by simp) 1 (by simp) (by simp) (by simp))
 clear n1
 go_wp2_with fail
 refine (C2.out _ (Nb.al N1.out _) _ _ F1.out.bs.1).mono ?_
 rintro e w2 ⟨rfl,n2⟩
 have N2:=Lib.hid ((Nb.al N1.out _).tr n2)
 have F2:=Lib.hid (Fresh.lit w2 [1] #[.int .u8 1] (by simp) 1 (by simp) (by simp) (by simp))
 clear n2 F1
 go_wp2_with fail
 refine (C3.out _ (Nb.al N2.out _) _ _ F2.out.bs.1).mono ?_
 rintro e w3 ⟨rfl,n3⟩
 have N3:=Lib.hid ((Nb.al N2.out _).tr n3)
 clear n3 F2
 go_wp2
 go_ret
 exact⟨rfl,N3.out⟩
theorem u32_wf {a:Int} (h:(Lit.int .u32 a).wf=true):0<=a:=by
 simp[Lit.wf,IntKind.min,IntKind.max,IntKind.signed,IntKind.bits] at h
 omega
end Go.Proofs.YtkofdbccdfpllaaDoor
