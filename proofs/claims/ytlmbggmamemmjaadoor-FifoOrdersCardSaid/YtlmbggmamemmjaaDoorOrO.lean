
/- A slice of frames that came in, opened. No conditions. -/
import Derived.Test.YtlmbggmamemmjaaDoorFrs
namespace Go.Proofs.YtlmbggmamemmjaaDoor
set_option linter.unusedVariables false
set_option linter.unusedSimpArgs false
open Go.RowKit Go.ChangeShapes Go.WideShapes

set_option maxHeartbeats 800000 in
theorem frames_opn {H : Type} {enc : TypeId × Value → H} {w : World} {fuel : Nat} {v : Value} {y : DataW H × List MemPlace}
    (h : DataW.trod enc Tryd.prog w 0 (fun _ => true) true fuel 30 [v] = some y) :
    ∃ a cap fs, v = .slice a (List.length fs) cap ∧ FrsAt w a cap fs ∧ (a = none → cap = 0) := by
  rcases Go.Deep.open_slice Tryd.underlying30 h with ⟨hcs, _⟩ | ⟨a, len, cap, m, n, D, Pl, hcs, _, hl, hm, hmm, _, hx⟩
  · exact ⟨none, 0, [], by simpa using hcs, FrsAt.nil w, fun _ => rfl⟩
  rw [show Tryd.prog.cellsOf 36 = 11 from by kernel_rfl] at hx
  have hle : len ≤ m := by rw [hmm]; split <;> omega
  have hk : ∀ j, j < len → ∃ p : Hd × List Nat, ∃ a' c', (∀ i u, (p.1.cs (.slice a' p.2.length c')).toList[i]? = some u → w.cell? ((a.add (j * 11)).add i) = some u) ∧ WdX p.1 ∧ (Lit.int .i64 p.1.K).wf = true ∧ Bs w a' c' p.2 ∧ (a' = none → c' = 0) := by
    intro j hj
    obtain ⟨cs, h1, h2⟩ := hx j (by omega)
    obtain ⟨_, hlen, hcell⟩ := World.cells?_some h1
    obtain ⟨f, l, a', c', rfl, hw, hK, hb, hnn⟩ := frame_open hlen h2
    refine ⟨(f, l), a', c', fun i u hu => ?_, hw, hK, hb, hnn⟩
    have hi : i < 11 := by rw [← hlen]; exact (List.getElem?_eq_some_iff.1 hu).1
    rw [hcell i hi]
    exact hu
  haveI : Inhabited (Hd × List Nat) := ⟨dF⟩
  obtain ⟨g, hg⟩ := Go.Deep.choose_lt hk
  refine ⟨some a, cap, (List.range len).map g, by simpa using hcs, ⟨by simpa using hl, hm, fun h0 => ?_⟩, fun h => by cases h⟩
  simp only [List.length_map, List.length_range] at h0 ⊢
  obtain ⟨b, o, s⟩ := a
  have hs : s = none := by
    obtain ⟨a', c', h1, _⟩ := hg 0 h0
    have := h1 0 _ rfl
    simpa [Addr.add] using World.cell?_spot this
  subst hs
  refine ⟨b, o, rfl, fun j hj => ?_⟩
  have e : ((List.range len).map g).getD j dF = g j := by simp [List.getD, hj]
  rw [e]
  obtain ⟨a', c', h1, h2, h3, h4, h5⟩ := hg j hj
  refine ⟨a', c', fun i u hu => ?_, h2, h3, h4, h5⟩
  have := h1 i u hu
  rwa [Addr.add_lit, Addr.add_lit] at this
end Go.Proofs.YtlmbggmamemmjaaDoor
