
/- What the laws of layer 8 ask first: the document's example, and whether a frame may be. Condition: the tables of kinds and of longer sizes hold what the program's text lays there. -/
import Derived.Test.YtaaphbneidmciaaDoorXlX
import Derived.Test.YtaaphbneidmciaaDoorClaA
namespace Go.Proofs.YtaaphbneidmciaaDoor
set_option linter.unusedVariables false
set_option linter.unusedSimpArgs false
open Go.RowKit

def liveX : Hd := ⟨3, 1365, false, false, false, false, false, 0, 0, 0⟩
theorem live_wx : (wxC liveX [1]).length = 166 ∧ wAckX liveX [1] = 157 ∧ okXE liveX [1] = 0 ∧ (wxC liveX [1]).getD 0 0 = 0 := by decide +kernel

set_option maxHeartbeats 1600000 in
set_option maxRecDepth 100000 in
theorem alive8_any (w : World) (hb : Both w) : Calls Tryd.prog 9 #[] w fun e w' => e = .returned (.bool true) ∧ Nb w w' := by
  have fl := Fresh.lit w [1] #[.int .u8 1] (by simp) 1 (by simp) (by simp) (by simp)
  have n0 : Nb w (w.alloc (.cells #[.int .u8 1] 5)) := Nb.rfl.al _
  have h1 := wire8_any liveX (some ⟨w.heap.size, 0, none⟩) 1 [1] _ fl.bs.1 (by simp only [WdX, liveX]; omega) (hb.1.below n0) (hb.2.below n0)
  obtain ⟨q1, q2, q3, q4⟩ := live_wx
  rw [q2, q3] at h1
  generalize wxC liveX [1] = L at *
  generalize wArbX liveX [1] = N at *
  simp only [Hd.cs, liveX] at h1
  have H1 := Lib.hid h1
  have Q1 := Lib.hid q1
  have Q4 := Lib.hid q4
  have N0 := Lib.hid n0
  clear h1 hb q1 q2 q3 q4 fl n0
  go_enter Tryd.func9, Tryd.ntmps9
  go_wp2_with fail
  refine H1.out.mono ?_
  rintro e w1 ⟨⟨a1, c1, rfl, f1⟩, n1⟩
  rw [Q1.out] at f1
  rw [Q1.out]
  obtain ⟨g, cap, he⟩ := f1.1.shape (by rw [Q1.out]; omega)
  rw [Q1.out] at he
  simp only [Value.slice.injEq] at he
  obtain ⟨rfl, _, rfl⟩ := he
  have hc := f1.1.cell 0 (by rw [Q1.out]; omega)
  rw [Q4.out] at hc
  have hlt : g < w1.heap.size := f1.1.lt (g := g) rfl
  have N1 := Lib.hid (N0.out.tr n1)
  clear f1 n1
  go_wp2
  go_ret
  exact ⟨rfl, N1.out.al _⟩

set_option maxHeartbeats 1600000 in
set_option maxRecDepth 100000 in
theorem mine8_any (f : Hd) (a : Option Addr) (cap : Nat) (l : List Nat) (w : World) (h : Bs w a cap l) (hl : Longer w) :
    Calls Tryd.prog 17 #[.agg (f.cs (.slice a l.length cap))] w fun e w' => e = .returned (.bool (okX f l)) ∧ Nb w w' := by
  have hL := h.len
  have hc := check5_any f a cap l _ (h.below (Nb.rfl.al (.cells (f.cs (.slice a l.length cap)) 25))) (hl.below (Nb.rfl.al _))
  cases hK : f.K == 3 with
  | false =>
    rw [show okX f l = false by simp [okX, hK]]
    obtain ⟨K, I, X, R, B, E, S, D, V, A⟩ := f
    simp only [Hd.cs] at hK ⊢
    clear h hl hc
    go_enter Tryd.func17, Tryd.ntmps17
    go_wp2
    go_ret
    exact ⟨rfl, Nb.rfl.al _⟩
  | true =>
    rw [show okX f l = okF f l by simp [okX, hK]]
    have d : (((checkN f l : Nat) : Int) == 0) = okF f l := by
      unfold checkN
      cases okF f l <;> rfl
    obtain ⟨K, I, X, R, B, E, S, D, V, A⟩ := f
    simp only [Hd.cs] at hK hc ⊢
    generalize checkN _ l = N at *
    generalize okF _ l = O at *
    have HC := Lib.hid hc
    clear h hl hc
    go_enter Tryd.func17, Tryd.ntmps17
    go_wp2_with fail
    refine HC.out.mono ?_
    rintro e w1 ⟨rfl, n1⟩
    go_wp2
    go_ret
    exact ⟨rfl, (Nb.rfl.al _).tr n1⟩
end Go.Proofs.YtaaphbneidmciaaDoor
