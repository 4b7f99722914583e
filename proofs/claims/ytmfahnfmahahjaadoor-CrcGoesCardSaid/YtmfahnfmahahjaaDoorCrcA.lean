/- The document's examples of layer 2 hold; what may be looked at ('good'). Condition: the package's table of kinds holds what the program's text lays there. -/
import Derived.Test.YtmfahnfmahahjaaDoorLaid
namespace Go.Proofs.YtmfahnfmahahjaaDoor
open Go.RowKit

theorem Bs.three (w : World) (t : TypeId) : Bs (w.alloc (.cells #[.int .u8 1, .int .u8 0, .int .u8 1] t)) (some ⟨w.heap.size, 0, none⟩) 3 [1, 0, 1] :=
  ⟨Nat.le_refl _, by simp [maxLen], by simp, fun _ => ⟨_, _, rfl, fun j hj => by
    match j, hj with
    | 0, _ => simp
    | 1, _ => simp
    | 2, _ => simp⟩⟩

theorem Fresh.bs {w w' : World} {a : Option Addr} {c : Nat} {l : List Nat} (h : Fresh w w' (.slice a l.length c) l) : Bs w' a c l ∧ (a = none → c = 0) := by
  have h0 := h.1
  obtain ⟨a', c', hv, hb, _⟩ := h0.bs
  simp only [Value.slice.injEq, true_and] at hv
  obtain ⟨rfl, rfl⟩ := hv
  refine ⟨hb, fun ha => ?_⟩
  rcases h0.1.2 with ⟨h1, _⟩ | ⟨g, cap, cur, h1, _⟩
  · simp only [Value.slice.injEq] at h1
    exact h1.2.2
  · subst ha
    cases h1

set_option maxHeartbeats 800000 in
set_option maxRecDepth 100000 in
theorem alive2_any (w : World) (hk : Kinds w) : Calls Tryd.prog 9 #[] w fun e w' => e = .returned (.bool true) ∧ Nb w w' := by
  have HK := Lib.hid hk
  clear hk
  have s1 : sumN 1 [1] = 17817 := by decide
  have s2 : sumE 1 [1] = 0 := by decide
  have s3 : sumE 5 [1, 0, 1] = 0 := by decide
  have s4 : (addL 5 [1, 0, 1]).length = 35 := by decide
  have s5 : fitsB 5 (addL 5 [1, 0, 1]) = true := by decide +kernel
  have S5 := Lib.hid s5
  have S4 := Lib.hid s4
  have h1 := fun w' hk' => sum_u 1 (some ⟨(w' : World).heap.size, 0, none⟩) 1 [1] _ hk' (Bs.one w' 1 (by decide) 5)
  rw [s1, s2] at h1
  have h2 := fun w' hk' => add_u 5 (some ⟨(w' : World).heap.size, 0, none⟩) 3 [1, 0, 1] _ hk' (Bs.three w' 5) (by simp)
  rw [s3] at h2
  have h3 := fun a c w' hk' hb hn => fits_u 5 a c (addL 5 [1, 0, 1]) w' hk' hb hn
  rw [s5] at h3
  generalize addL 5 [1, 0, 1] = L at *
  have H1 := Lib.hid h1
  have H2 := Lib.hid h2
  have H3 := Lib.hid h3
  clear h1 h2 h3 s1 s2 s3 s5
  go_enter Tryd.func9, Tryd.ntmps9
  go_wp2_with fail
  refine (H1.out w (HK.out.below (Nb.rfl.al _))).mono ?_
  rintro e w1 ⟨rfl, hnb⟩
  have n1 : Nb w w1 := (Nb.rfl.al _).tr hnb
  have N1 := Lib.hid n1
  clear hnb n1
  go_wp2_with fail
  refine (H2.out w1 ((HK.out.below N1.out).below (Nb.rfl.al _))).mono ?_
  rintro e w2 ⟨⟨a, c, rfl, hf⟩, hnb⟩
  have HB := Lib.hid hf.bs
  have n2 : Nb w w2 := N1.out.tr ((Nb.rfl.al _).tr hnb)
  have N2 := Lib.hid n2
  clear hnb n2 hf
  have h4 := size_any 4 w2 (HK.out.below N2.out)
  rw [show szK 4 = 13 from by decide] at h4
  go_wp2_with fail
  refine h4.mono ?_
  rintro e w3 ⟨rfl, hn3⟩
  clear h4
  have h3 := H3.out a c w3 ((HK.out.below N2.out).below hn3) (HB.out.1.below hn3) HB.out.2
  rw [s4] at h3
  go_wp2_with fail
  refine h3.mono ?_
  rintro e w4 ⟨rfl, hn4⟩
  clear h3
  go_wp2
  go_ret
  exact ⟨rfl, (N2.out.tr hn3).tr hn4⟩

/-- May a row be looked at? -/
def goodB (n : Nat) : Bool := decide (n ≤ 3000) || decide (65536 < n)

set_option maxHeartbeats 800000 in
set_option maxRecDepth 100000 in
theorem good_any (a : Option Addr) (cap n : Nat) (w : World) (hn : n ≤ 9223372036854775807) :
    Calls Tryd.prog 10 #[.slice a n cap] w fun e w' => e = .returned (.bool (goodB n)) ∧ w = w' := by
  by_cases h1 : n ≤ 3000
  · have e : goodB n = true := by simp [goodB, h1]
    rw [e]
    go_enter Tryd.func10, Tryd.ntmps10
    go_wp2
    go_ret
    exact ⟨rfl, rfl⟩
  · by_cases h2 : 65536 < n
    · have e : goodB n = true := by simp [goodB, h2]
      rw [e]
      go_enter Tryd.func10, Tryd.ntmps10
      go_wp2
      go_ret
      exact ⟨congrArg (fun x => Ending.returned (Value.bool x)) (by simp; omega), rfl⟩
    · have e : goodB n = false := by simp [goodB, h1, h2]
      rw [e]
      go_enter Tryd.func10, Tryd.ntmps10
      go_wp2
      go_ret
      exact ⟨congrArg (fun x => Ending.returned (Value.bool x)) (by simp; omega), rfl⟩
end Go.Proofs.YtmfahnfmahahjaaDoor
