
/- The document's examples of layer 1 hold; and a slice of bytes that came in reads as a list. No conditions. -/
import Derived.Test.YtaiplhlcldbnkaaDoorRefRead
namespace Go.Proofs.YtaiplhlcldbnkaaDoor
set_option linter.unusedVariables false
set_option linter.unusedSimpArgs false
open Go.RowKit

theorem isRun3 {k : Nat} (h : IsRun [0, 1, 1, 1] k) : k = 3 := h.uniq ⟨by decide, by decide, by decide⟩
theorem Bs.four (w : World) (t : TypeId) : Bs (w.alloc (.cells #[.int .u8 0, .int .u8 1, .int .u8 1, .int .u8 1] t)) (some ⟨w.heap.size, 0, none⟩) 4 [0, 1, 1, 1] :=
  ⟨Nat.le_refl _, by simp [maxLen], by simp, fun _ => ⟨_, _, rfl, fun j hj => by
    match j, hj with
    | 0, _ => simp
    | 1, _ => simp
    | 2, _ => simp
    | 3, _ => simp⟩⟩

end Go.Proofs.YtaiplhlcldbnkaaDoor
