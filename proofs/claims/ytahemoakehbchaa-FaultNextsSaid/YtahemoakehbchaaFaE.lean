
/- Two states of counters compared by ==. No conditions. -/
import Derived.Test.YtahemoakehbchaaFaP
import Derived.Laws.StructEq
namespace Go.Proofs.Ytahemoakehbchaa
set_option linter.unusedVariables false
set_option linter.unusedSimpArgs false
open Go.RowKit

theorem run_eqS (T R : Int) (O : Bool) (T' R' : Int) (O' : Bool) (w : World) : (binOp .eql 25 (.agg #[.int .i64 T, .int .i64 R, .bool O]) (.agg #[.int .i64 T', .int .i64 R', .bool O'])).run Try.prog w = .ok (.bool (T == T' && R == R' && O == O')) w := by
  have hS : Try.prog.underlying 25 = some (.struct (Try.prog.fieldsOf 25)) := by kernel_rfl
  have hp : Try.prog.stoodInHeld 25 = false := by kernel_rfl
  have u3 := Try.underlying3
  have u4 := Try.underlying4
  rw [run_eql_struct, show (10000 : Nat) = 9999 + 1 from rfl, run_equalIn_agg w 9999 25 _ _ hS hp]
  simp only [Program.fieldsOf, Try.underlying25]
  go_simp
  by_cases h1 : T = T' <;> by_cases h2 : R = R' <;> cases O <;> cases O' <;> simp [h1, h2]

theorem run_eqR (T R : Int) (O : Bool) (T' R' : Int) (O' : Bool) (w : World) : (binOp .eql 23 (.agg #[.int .i64 T, .int .i64 R, .bool O]) (.agg #[.int .i64 T', .int .i64 R', .bool O'])).run Try.prog w = .ok (.bool (T == T' && R == R' && O == O')) w := by
  have hS : Try.prog.underlying 23 = some (.struct (Try.prog.fieldsOf 23)) := by kernel_rfl
  have hp : Try.prog.stoodInHeld 23 = false := by kernel_rfl
  have u3 := Try.underlying3
  have u4 := Try.underlying4
  rw [run_eql_struct, show (10000 : Nat) = 9999 + 1 from rfl, run_equalIn_agg w 9999 23 _ _ hS hp]
  simp only [Program.fieldsOf, Try.underlying23]
  go_simp
  by_cases h1 : T = T' <;> by_cases h2 : R = R' <;> cases O <;> cases O' <;> simp [h1, h2]

end Go.Proofs.Ytahemoakehbchaa
