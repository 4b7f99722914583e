
/- What the laws of layer 7 ask first: the document's example, and whether a frame may be. Condition: the tables of kinds and of longer sizes hold what the program's text lays there. -/
import Derived.Test.YtoikodmlhkegdaaDoorFdX
import Derived.Test.YtoikodmlhkegdaaDoorClaA
namespace Go.Proofs.YtoikodmlhkegdaaDoor
set_option linter.unusedVariables false
set_option linter.unusedSimpArgs false
open Go.RowKit

def liveD : Hd := ⟨2, 1365, false, false, false, false, false, 0, 0, 0⟩
theorem live_wd : (wdC liveD []).length = 60 ∧ wAckD liveD [] = 51 ∧ okDE liveD [] = 0 ∧ (wdC liveD []).getD 0 0 = 0 := by decide +kernel

set_option maxHeartbeats 1600000 in
set_option maxRecDepth 100000 in
theorem alive7_any (w : World) (hb : Both w) : Calls Tryd.prog 27 #[] w fun e w' => e = .returned (.bool true) ∧ Nb w w' := by
  have h1 := wire7_any liveD none 0 [] w (Bs.nil w) (by decide) hb.1 hb.2
  obtain ⟨q1, q2, q3, q4⟩ := live_wd
  rw [q2, q3] at h1
  generalize wdC liveD [] = L at *
  generalize wArbD liveD [] = N at *
  simp only [Hd.cs, liveD] at h1
  have H1 := Lib.hid h1
  have Q1 := Lib.hid q1
  have Q4 := Lib.hid q4
  clear h1 hb q1 q2 q3 q4
  go_enter Tryd.func27, Tryd.ntmps27
  go_wp2_with fail
  refine H1.out.mono ?_
  rintro e w1 ⟨⟨a1, c1, rfl, f1⟩, n1⟩
  rw [Q1.out] at f1
  rw [Q1.out]
  obtain ⟨g, cap, he⟩ := f1.1.shape (by rw [Q1.out]; omega)
  rw [Q1.out] at he
  simp only [Value.slice.injEq] at he
  obtain ⟨rfl, _, rfl⟩ := he
  have hc := f1.1.cell 0 (by rw [Q1.out]; omega)
  rw [Q4.out] at hc
  have hlt : g < w1.heap.size := f1.1.lt (g := g) rfl
  clear f1
  go_wp2
  go_ret
  exact ⟨rfl, n1.al _⟩

set_option maxHeartbeats 1600000 in
set_option maxRecDepth 100000 in
theorem mine7_any (f : Hd) (a : Option Addr) (cap : Nat) (l : List Nat) (w : World) (h : Bs w a cap l) (hl : Longer w) :
    Calls Tryd.prog 34 #[.agg (f.cs (.slice a l.length cap))] w fun e w' => e = .returned (.bool (okD f l)) ∧ Nb w w' := by
  have hL := h.len
  have hc := check5_any f a cap l _ (h.below (Nb.rfl.al (.cells (f.cs (.slice a l.length cap)) 25))) (hl.below (Nb.rfl.al _))
  cases hK : f.K == 2 with
  | false =>
    rw [show okD f l = false by simp [okD, hK]]
    obtain ⟨K, I, X, R, B, E, S, D, V, A⟩ := f
    simp only [Hd.cs] at hK ⊢
    clear h hl hc
    go_enter Tryd.func34, Tryd.ntmps34
    go_wp2
    go_ret
    exact ⟨rfl, Nb.rfl.al _⟩
  | true =>
    rw [show okD f l = okF f l by simp [okD, hK]]
    have d : (((checkN f l : Nat) : Int) == 0) = okF f l := by
      unfold checkN
      cases okF f l <;> rfl
    obtain ⟨K, I, X, R, B, E, S, D, V, A⟩ := f
    simp only [Hd.cs] at hK hc ⊢
    generalize checkN _ l = N at *
    generalize okF _ l = O at *
    have HC := Lib.hid hc
    clear h hl hc
    go_enter Tryd.func34, Tryd.ntmps34
    go_wp2_with fail
    refine HC.out.mono ?_
    rintro e w1 ⟨rfl, n1⟩
    go_wp2
    go_ret
    exact ⟨rfl, (Nb.rfl.al _).tr n1⟩
end Go.Proofs.YtoikodmlhkegdaaDoor
