
/- The landed package bus: New of too many or too few. No conditions. -/
import Derived.Test.YtkjjfnmeogpdbaaGreatDoorBlO
import Derived.RegionTactic
set_option maxHeartbeats 400000
set_option maxRecDepth 100000
namespace Go.Proofs.YtkjjfnmeogpdbaaGreatDoor
set_option linter.unusedVariables false
set_option linter.unusedSimpArgs false
open Go.RowKit
theorem newB_bad (a:Option Addr) (cap:Nat) (kns:List Bool) (w:World) (h:Bls w a cap kns) (hb:kns.length < 1\/16 < kns.length) :
    Calls Tryz.prog 11 #[.slice a kns.length cap] w fun e w'=>e = .returned (.tuple #[.pointer none,.int .i64 2])/\Nb w w':=by
 have hL:=h.len
 by_cases h1:kns.length < 1
 ·have d1:decide ((kns.length:Int) < 1)=true:=decide_eq_true (by omega)
  clear h hb h1
  go_enter Tryz.func11,Tryz.ntmps11
  go_wp2
  go_ret2
  exact⟨rfl,Nb.rfl⟩
 ·have d1:decide ((kns.length:Int) < 1)=false:=decide_eq_false (by omega)
  have d2:decide ((16:Int) < (kns.length:Int))=true:=decide_eq_true (by omega)
  clear h hb h1
  go_enter Tryz.func11,Tryz.ntmps11
  go_wp2
  go_ret2
  exact⟨rfl,Nb.rfl⟩
end Go.Proofs.YtkjjfnmeogpdbaaGreatDoor
