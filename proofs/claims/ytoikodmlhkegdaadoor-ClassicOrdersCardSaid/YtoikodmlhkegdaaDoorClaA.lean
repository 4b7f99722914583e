
/- What the laws of layer 6 ask first: the document's example, and whether a frame may be. Condition: the tables of kinds and of longer sizes hold what the program's text lays there. -/
import Derived.Test.YtoikodmlhkegdaaDoorClaW
import Derived.Test.YtoikodmlhkegdaaDoorGc
import Derived.Test.YtoikodmlhkegdaaDoorFrmA
import Derived.LaidSub
namespace Go.Proofs.YtoikodmlhkegdaaDoor
set_option linter.unusedVariables false
set_option linter.unusedSimpArgs false
open Go.RowKit

/-- Both listed variables hold what the program's text lays there. -/
def Both (w : World) : Prop := Kinds w ∧ Longer w
theorem Both.below {w w' : World} (h : Both w) (hb : Nb w w') : Both w' := ⟨h.1.below hb, h.2.below hb⟩
theorem both_of {W : World} (h : laidMetH Tryd.prog [("omnibus/crc.kinds", Rows.laid_omnibus_crc_kinds), ("omnibus/frame.longer", Rows.laid_omnibus_frame_longer)] W) : Both W :=
  ⟨kinds_of (h.filter fun x => x.1 == "omnibus/crc.kinds"), longer_of (h.filter fun x => x.1 == "omnibus/frame.longer")⟩

def liveF : Hd := ⟨1, 1365, false, false, false, false, false, 0, 0, 0⟩
theorem live_wire : (wireC liveF []).length = 45 ∧ wAckC liveF [] = 36 ∧ okE liveF [] = 0 ∧ (wireC liveF []).getD 0 0 = 0 := by decide +kernel

set_option maxHeartbeats 1600000 in
set_option maxRecDepth 100000 in
theorem alive6_any (w : World) (hb : Both w) : Calls Tryd.prog 15 #[] w fun e w' => e = .returned (.bool true) ∧ Nb w w' := by
  have h1 := wire6_any liveF none 0 [] w (Bs.nil w) (by decide) hb.1 hb.2
  obtain ⟨q1, q2, q3, q4⟩ := live_wire
  rw [q2, q3] at h1
  generalize wireC liveF [] = L at *
  generalize wArbC liveF [] = N at *
  simp only [Hd.cs, liveF] at h1
  have H1 := Lib.hid h1
  have Q1 := Lib.hid q1
  have Q4 := Lib.hid q4
  clear h1 hb q1 q2 q3 q4
  go_enter Tryd.func15, Tryd.ntmps15
  go_wp2_with fail
  refine H1.out.mono ?_
  rintro e w1 ⟨⟨a1, c1, rfl, f1⟩, n1⟩
  rw [Q1.out] at f1
  rw [Q1.out]
  obtain ⟨g, cap, he⟩ := f1.1.shape (by rw [Q1.out]; omega)
  rw [Q1.out] at he
  simp only [Value.slice.injEq] at he
  obtain ⟨rfl, _, rfl⟩ := he
  have hc := f1.1.cell 0 (by rw [Q1.out]; omega)
  rw [Q4.out] at hc
  have hlt : g < w1.heap.size := f1.1.lt (g := g) rfl
  clear f1
  go_wp2
  go_ret
  exact ⟨rfl, n1.al _⟩

set_option maxHeartbeats 1600000 in
set_option maxRecDepth 100000 in
theorem mine6_any (f : Hd) (a : Option Addr) (cap : Nat) (l : List Nat) (w : World) (h : Bs w a cap l) (hl : Longer w) :
    Calls Tryd.prog 23 #[.agg (f.cs (.slice a l.length cap))] w fun e w' => e = .returned (.bool (okC f l)) ∧ Nb w w' := by
  have hL := h.len
  have hc := check5_any f a cap l _ (h.below (Nb.rfl.al (.cells (f.cs (.slice a l.length cap)) 25))) (hl.below (Nb.rfl.al _))
  cases hK : f.K == 1 with
  | false =>
    rw [show okC f l = false by simp [okC, hK]]
    obtain ⟨K, I, X, R, B, E, S, D, V, A⟩ := f
    simp only [Hd.cs] at hK ⊢
    clear h hl hc
    go_enter Tryd.func23, Tryd.ntmps23
    go_wp2
    go_ret
    exact ⟨rfl, Nb.rfl.al _⟩
  | true =>
    rw [show okC f l = okF f l by simp [okC, hK]]
    have d : (((checkN f l : Nat) : Int) == 0) = okF f l := by
      unfold checkN
      cases okF f l <;> rfl
    obtain ⟨K, I, X, R, B, E, S, D, V, A⟩ := f
    simp only [Hd.cs] at hK hc ⊢
    generalize checkN _ l = N at *
    generalize okF _ l = O at *
    have HC := Lib.hid hc
    clear h hl hc
    go_enter Tryd.func23, Tryd.ntmps23
    go_wp2_with fail
    refine HC.out.mono ?_
    rintro e w1 ⟨rfl, n1⟩
    go_wp2
    go_ret
    exact ⟨rfl, (Nb.rfl.al _).tr n1⟩
end Go.Proofs.YtoikodmlhkegdaaDoor
