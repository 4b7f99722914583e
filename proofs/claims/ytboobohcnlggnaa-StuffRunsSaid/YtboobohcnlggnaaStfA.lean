
/- The document's examples of layer 3 hold; what may be looked at ('good'). No conditions. -/
import Derived.Test.YtboobohcnlggnaaStfT
import Derived.Test.YtboobohcnlggnaaStfW
import Derived.Test.YtboobohcnlggnaaIn
namespace Go.Proofs.Ytboobohcnlggnaa
open Go.RowKit

theorem Bs.six (w : World) (t : TypeId) : Bs (w.alloc (.cells #[.int .u8 1, .int .u8 1, .int .u8 1, .int .u8 1, .int .u8 1, .int .u8 1] t)) (some ⟨w.heap.size, 0, none⟩) 6 [1, 1, 1, 1, 1, 1] :=
  ⟨Nat.le_refl _, by simp [maxLen], by simp, fun _ => ⟨_, _, rfl, fun j hj => by
    match j, hj with
    | 0, _ => simp
    | 1, _ => simp
    | 2, _ => simp
    | 3, _ => simp
    | 4, _ => simp
    | 5, _ => simp⟩⟩

set_option maxHeartbeats 800000 in
set_option maxRecDepth 100000 in
theorem alive3_any (w : World) : Calls Try.prog 9 #[] w fun e w' => e = .returned (.bool true) ∧ Nb w w' := by
  have s1 : spL [1, 1, 1, 1, 1, 1] = [1, 1, 1, 1, 1, 0, 1] := by decide
  have s2 : spE [1, 1, 1, 1, 1, 1] = 0 := by decide
  have s3 : sgL [1, 1, 1, 1, 1, 1] = [] := by decide
  have s4 : sgE [1, 1, 1, 1, 1, 1] = 4 := by decide
  have h1 := fun w' => sput_u (some ⟨(w' : World).heap.size, 0, none⟩) 6 [1, 1, 1, 1, 1, 1] _ (Bs.six w' 5)
  rw [s1, s2] at h1
  have h2 := fun w' => sget_u (some ⟨(w' : World).heap.size, 0, none⟩) 6 [1, 1, 1, 1, 1, 1] _ (Bs.six w' 5)
  rw [s3, s4] at h2
  have H1 := Lib.hid h1
  have H2 := Lib.hid h2
  clear h1 h2 s1 s2 s3 s4
  go_enter Try.func9, Try.ntmps9
  go_wp2_with fail
  refine (H1.out w).mono ?_
  rintro e w1 ⟨⟨a, c, rfl, hf⟩, hnb⟩
  have n1 : Nb w w1 := (Nb.rfl.al _).tr hnb
  have N1 := Lib.hid n1
  have HB := Lib.hid hf.bs.1
  clear hnb n1 hf
  go_wp2_with fail
  refine (H2.out w1).mono ?_
  rintro e w2 ⟨⟨a2, c2, rfl, hf⟩, hnb⟩
  have n2 : Nb w1 w2 := (Nb.rfl.al _).tr hnb
  have hB := HB.out.below n2
  have N2 := Lib.hid (N1.out.tr n2)
  clear hnb n2 hf HB N1
  obtain ⟨b, o, rfl, hcl⟩ := hB.hcells (by simp)
  have e5 : w2.cell? ⟨b, o + 5, none⟩ = some (.int .u8 0) := hcl 5 (by simp)
  have e6 : w2.cell? ⟨b, o + 6, none⟩ = some (.int .u8 1) := hcl 6 (by simp)
  have hcp := hB.hcap
  have hmx := hB.hmax
  unfold maxLen at hmx
  simp only [List.length_cons, List.length_nil] at hcp
  clear hcl hB
  go_wp2
  go_ret
  exact ⟨rfl, N2.out⟩

set_option maxHeartbeats 800000 in
set_option maxRecDepth 100000 in
theorem good3_any (a : Option Addr) (cap n : Nat) (w : World) (hn : n ≤ 9223372036854775807) :
    Calls Try.prog 10 #[.slice a n cap] w fun e w' => e = .returned (.bool (goodB n)) ∧ w = w' := by
  by_cases h1 : n ≤ 3000
  · have e : goodB n = true := by simp [goodB, h1]
    rw [e]
    go_enter Try.func10, Try.ntmps10
    go_wp2
    go_ret
    exact ⟨rfl, rfl⟩
  · by_cases h2 : 65536 < n
    · have e : goodB n = true := by simp [goodB, h2]
      rw [e]
      go_enter Try.func10, Try.ntmps10
      go_wp2
      go_ret
      exact ⟨congrArg (fun x => Ending.returned (Value.bool x)) (by simp; omega), rfl⟩
    · have e : goodB n = false := by simp [goodB, h1, h2]
      rw [e]
      go_enter Try.func10, Try.ntmps10
      go_wp2
      go_ret
      exact ⟨congrArg (fun x => Ending.returned (Value.bool x)) (by simp; omega), rfl⟩
end Go.Proofs.Ytboobohcnlggnaa
