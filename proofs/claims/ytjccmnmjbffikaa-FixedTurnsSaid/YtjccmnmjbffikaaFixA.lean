
/- The document's examples of layer 4 hold; what may be looked at ('good'). No conditions. -/
import Derived.Test.YtjccmnmjbffikaaFixU
import Derived.Test.YtjccmnmjbffikaaOpn
namespace Go.Proofs.Ytjccmnmjbffikaa
open Go.RowKit

/-- A block of four cells; of two. -/
theorem Blk.c4 {w : World} {R : Nat} {u0 u1 u2 u3 : Value} {t : TypeId} (h : Blk w R #[u0, u1, u2, u3] t) : w.cell? ⟨R, 0, none⟩ = some u0 ∧ w.cell? ⟨R, 1, none⟩ = some u1 ∧ w.cell? ⟨R, 2, none⟩ = some u2 ∧ w.cell? ⟨R, 3, none⟩ = some u3 := ⟨h.cell 0, h.cell 1, h.cell 2, h.cell 3⟩
theorem Blk.c2 {w : World} {R : Nat} {u0 u1 : Value} {t : TypeId} (h : Blk w R #[u0, u1] t) : w.cell? ⟨R, 0, none⟩ = some u0 ∧ w.cell? ⟨R, 1, none⟩ = some u1 := ⟨h.cell 0, h.cell 1⟩
theorem Bs.five (w : World) (t : TypeId) : Bs (w.alloc (.cells #[.int .u8 1, .int .u8 1, .int .u8 1, .int .u8 1, .int .u8 1] t)) (some ⟨w.heap.size, 0, none⟩) 5 [1, 1, 1, 1, 1] :=
  ⟨Nat.le_refl _, by simp [maxLen], by simp, fun _ => ⟨_, _, rfl, fun j hj => by
    match j, hj with
    | 0, _ => simp
    | 1, _ => simp
    | 2, _ => simp
    | 3, _ => simp
    | 4, _ => simp⟩⟩

set_option maxHeartbeats 800000 in
set_option maxRecDepth 100000 in
theorem alive4_any (w : World) : Calls Try.prog 9 #[] w fun e w' => e = .returned (.bool true) ∧ Nb w w' := by
  have s1 : fpL 1 [1, 1, 1, 1, 1] 4 true = [0, 1, 1, 1, 1, 0, 1] := by decide
  have s2 : fpE 1 [1, 1, 1, 1, 1] 4 true = 0 := by decide
  have s3 : tyL 2 = [0, 1, 1, 0] := by decide
  have s4 : tyE 2 = 0 := by decide
  have h1 := fun w' => fxput_u 1 (some ⟨(w' : World).heap.size, 0, none⟩) 5 [1, 1, 1, 1, 1] 4 true _ (by omega) (Bs.five w' 5)
  rw [s1, s2] at h1
  have h2 := fun w' => tally_u 2 w' (by decide)
  rw [s3, s4] at h2
  have H1 := Lib.hid h1
  have H2 := Lib.hid h2
  clear h1 h2 s1 s2 s3 s4
  go_enter Try.func9, Try.ntmps9
  go_wp2_with fail
  refine (H1.out w).mono ?_
  rintro e w1 ⟨⟨a, c, rfl, hf⟩, hnb⟩
  have n1 : Nb w w1 := (Nb.rfl.al _).tr hnb
  have N1 := Lib.hid n1
  have HB := Lib.hid hf.bs.1
  clear hnb n1 hf
  go_wp2_with fail
  refine (H2.out w1).mono ?_
  rintro e w2 ⟨⟨a2, c2, rfl, hf⟩, hnb⟩
  have hB := HB.out.below hnb
  have hB2 := hf.bs.1
  have N2 := Lib.hid (N1.out.tr hnb)
  clear hnb hf HB N1
  obtain ⟨b, o, rfl, hcl⟩ := hB.hcells (by simp)
  obtain ⟨b2, o2, rfl, hcl2⟩ := hB2.hcells (by simp)
  have e0 : w2.cell? ⟨b, o, none⟩ = some (.int .u8 0) := hcl 0 (by simp)
  have e5 : w2.cell? ⟨b, o + 5, none⟩ = some (.int .u8 0) := hcl 5 (by simp)
  have k0 : w2.cell? ⟨b2, o2, none⟩ = some (.int .u8 0) := hcl2 0 (by simp)
  have k1 : w2.cell? ⟨b2, o2 + 1, none⟩ = some (.int .u8 1) := hcl2 1 (by simp)
  have k2 : w2.cell? ⟨b2, o2 + 2, none⟩ = some (.int .u8 1) := hcl2 2 (by simp)
  have k3 : w2.cell? ⟨b2, o2 + 3, none⟩ = some (.int .u8 0) := hcl2 3 (by simp)
  have hcp := hB.hcap
  have hmx := hB.hmax
  have hcp2 := hB2.hcap
  have hmx2 := hB2.hmax
  unfold maxLen at hmx hmx2
  simp only [List.length_cons, List.length_nil] at hcp hcp2
  clear hcl hB hcl2 hB2
  go_wp2
  go_ret
  exact ⟨rfl, N2.out⟩

set_option maxHeartbeats 800000 in
set_option maxRecDepth 100000 in
theorem good4_any (p : Nat) (a : Option Addr) (cap n : Nat) (E : Int) (A : Bool) (w : World) (hn : n ≤ 9223372036854775807) :
    Calls Try.prog 10 #[.agg #[.int .u8 p, .slice a n cap, .int .i64 E, .bool A]] w fun e w' => e = .returned (.bool (goodB n)) ∧ Nb w w' := by
  by_cases h1 : n ≤ 3000
  · have e : goodB n = true := by simp [goodB, h1]
    rw [e]
    go_enter Try.func10, Try.ntmps10
    go_wp2
    go_ret
    exact ⟨rfl, Nb.rfl.al _⟩
  · by_cases h2 : 65536 < n
    · have e : goodB n = true := by simp [goodB, h2]
      rw [e]
      go_enter Try.func10, Try.ntmps10
      go_wp2
      go_ret
      exact ⟨congrArg (fun x => Ending.returned (Value.bool x)) (by simp; omega), Nb.rfl.al _⟩
    · have e : goodB n = false := by simp [goodB, h1, h2]
      rw [e]
      go_enter Try.func10, Try.ntmps10
      go_wp2
      go_ret
      exact ⟨congrArg (fun x => Ending.returned (Value.bool x)) (by simp; omega), Nb.rfl.al _⟩
end Go.Proofs.Ytjccmnmjbffikaa
