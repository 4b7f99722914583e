
/- Contract of package classic's putHead: the head of a frame behind a row. No conditions but sizes. -/
import Derived.Test.YtaaphbneidmciaaDoorRwC
namespace Go.Proofs.YtaaphbneidmciaaDoor
set_option linter.unusedVariables false
set_option linter.unusedSimpArgs false
open Go.RowKit

theorem and_u32 (a b : Nat) (ha : a < 4294967296) (hb : b < 4294967296) : bits BinOp.and IntKind.u32 (a : Int) (b : Int) = ((a &&& b : Nat) : Int) := by
  have hx : a &&& b < 2 ^ 32 := Nat.and_lt_two_pow _ (by omega)
  have h1 : (BitVec.ofInt 32 (a : Int)).toNat = a := by rw [BitVec.ofInt_natCast, BitVec.toNat_ofNat]; exact Nat.mod_eq_of_lt (by omega)
  have h2 : (BitVec.ofInt 32 (b : Int)).toNat = b := by rw [BitVec.ofInt_natCast, BitVec.toNat_ofNat]; exact Nat.mod_eq_of_lt (by omega)
  show IntKind.u32.wrap ((BitVec.ofInt 32 (a : Int) &&& BitVec.ofInt 32 (b : Int)).toNat : Int) = _
  rw [BitVec.toNat_and, h1, h2]
  have hx2 : ((a &&& b : Nat) : Int) < 4294967296 := by omega
  generalize a &&& b = c at *
  simp only [IntKind.wrap, IntKind.bits, IntKind.signed]
  simp
  omega
theorem and18 (i : Nat) (h : i < 4294967296) : bits BinOp.and IntKind.u32 (i : Int) 262143 = ((i % 262144 : Nat) : Int) := by
  have h2 := and_u32 i (2 ^ 18 - 1) h (by decide)
  rw [Nat.and_two_pow_sub_one_eq_mod] at h2
  exact h2

end Go.Proofs.YtaaphbneidmciaaDoor
