
/- What a slice of ints is that came in; parts of it. No conditions. -/
import Derived.Test.YtahemoakehbchaaFre
import Derived.Test.YtahemoakehbchaaOpn
namespace Go.Proofs.Ytahemoakehbchaa
set_option linter.unusedVariables false
set_option linter.unusedSimpArgs false
open Go.RowKit Go.ChangeShapes Go.WideShapes

/-- The slice value with this address and this capacity reads as these ints. -/
structure Is (w : World) (a : Option Addr) (cap : Nat) (l : List Int) : Prop where
  hcap : l.length ≤ cap
  hmax : cap ≤ maxLen
  hwf : ∀ x ∈ l, (Lit.int .i64 x).wf = true
  hcells : 0 < l.length → ∃ b o, a = some ⟨b, o, none⟩ ∧ ∀ j, j < l.length → w.cell? ⟨b, o + j, none⟩ = some (.int .i64 (l.getD j 0))
theorem Is.len {w : World} {a : Option Addr} {cap : Nat} {l : List Int} (h : Is w a cap l) : l.length ≤ 9223372036854775807 := by
  have h1 := h.hcap
  have h2 := h.hmax
  unfold maxLen at h2
  omega
theorem Is.below {w w' : World} {a : Option Addr} {cap : Nat} {l : List Int} (h : Is w a cap l) (hb : Nb w w') : Is w' a cap l := by
  refine ⟨h.hcap, h.hmax, h.hwf, fun hl => ?_⟩
  obtain ⟨b, o, ha, hc⟩ := h.hcells hl
  exact ⟨b, o, ha, fun j hj => by
    have := hc j hj
    rw [hb.cell (p := ⟨b, o + j, none⟩) (World.block_lt_of_cell? _ _ this)]
    exact this⟩
theorem Is.nil (w : World) : Is w none 0 [] := ⟨Nat.le_refl _, by simp [maxLen], by simp, by simp⟩
theorem Is.getD_wf {w : World} {a : Option Addr} {cap : Nat} {l : List Int} (h : Is w a cap l) (j : Nat) : (Lit.int .i64 (l.getD j 0)).wf = true := by
  by_cases hj : j < l.length
  · have e : l.getD j 0 = l[j] := by simp [List.getD, hj]
    rw [e]
    exact h.hwf _ (List.getElem_mem hj)
  · simp [List.getD, List.getElem?_eq_none (by omega : l.length ≤ j)]
    decide
theorem Is.ofRow {w : World} {x : Addr} {len cap : Nat} {zs : List Int} (hl : len ≤ cap) (hm : cap ≤ maxLen) (hz : zs.length = cap) (hc : ∀ i, i < zs.length → w.cell? (x.add i) = some (.int .i64 (zs.getD i 0))) (hw : ∀ n ∈ zs, (Lit.int .i64 n).wf = true) :
    ∃ l : List Int, len = l.length ∧ Is w (some x) cap l := by
  have hlen : (zs.take len).length = len := by rw [List.length_take]; omega
  refine ⟨zs.take len, hlen.symm, ⟨by omega, hm, fun n hn => hw n (List.mem_of_mem_take hn), fun h0 => ?_⟩⟩
  obtain ⟨b, o, s⟩ := x
  have h1 := hc 0 (by omega)
  have hs : s = none := by simpa [Addr.add] using World.cell?_spot h1
  subst hs
  refine ⟨b, o, rfl, fun j hj => ?_⟩
  have h2 := hc j (by omega)
  rw [Addr.add_lit] at h2
  rw [h2]
  congr 2
  simp [List.getD, show j < len by omega]
theorem ints_open {H : Type} {enc : TypeId × Value → H} {w : World} {fuel : Nat} {v : Value} {y : DataW H × List MemPlace}
    (h : DataW.trod enc Try.prog w 0 (fun _ => true) true fuel 37 [v] = some y) :
    ∃ a cap l, v = .slice a (List.length l) cap ∧ Is w a cap l ∧ (a = none → cap = 0) := by
  rcases Go.ChangeShapes.open_ints Try.underlying37 Try.underlying3 (by kernel_rfl) h with ⟨hcs, _⟩ | ⟨x, l, c, zs, hcs, _, hl, hm, hz, hy, hcell, hwz⟩
  · simp at hcs
    exact ⟨none, 0, [], by simpa using hcs, Is.nil w, fun _ => rfl⟩
  · simp at hcs
    obtain ⟨l', hl', hb⟩ := Is.ofRow (w := w) (x := x) (len := l) (cap := c) (zs := zs) hl hm (by simpa using hz) hcell hwz
    subst hl'
    exact ⟨some x, c, l', hcs, hb, by simp⟩

/-! Parts. -/
theorem Is.head {w : World} {a : Option Addr} {cap : Nat} {l : List Int} (h : Is w a cap l) (n : Nat) : Is w a cap (l.take n) := by
  have hc := h.hcap
  refine ⟨by rw [List.length_take]; omega, h.hmax, fun x hx => h.hwf x (List.mem_of_mem_take hx), fun h0 => ?_⟩
  rw [List.length_take] at h0
  obtain ⟨b, o, ha, hcl⟩ := h.hcells (by omega)
  refine ⟨b, o, ha, fun j hj => ?_⟩
  rw [List.length_take] at hj
  rw [hcl j (by omega)]
  simp [List.getD, show j < n by omega]
theorem elemInt : Try.prog.elem 37 = 3 := by kernel_rfl
theorem sizeInt (w : World) : (sizeOf 3).run Try.prog w = .ok 1 w := by kernel_rfl
theorem run_cutHI (a : Option Addr) (len cap k : Nat) (hk : k ≤ cap) (w : World) :
    (Instr.sliceAt 37 (.slice a len cap) none (some (.int .i64 (k : Int))) none).run Try.prog w = .ok (.slice a k cap) w := by
  have ht : Try.prog.underlying 37 = some (.slice (Try.prog.elem 37)) := by kernel_rfl
  rw [run_sliceAt_slice _ _ _ _ _ _ ht, run_slice_h w _ a len cap ht .i64 (k : Int) (by omega) (by omega), elemInt, sizeInt]
  simp only [Result.andThen, sliced, Nat.zero_mul, Nat.sub_zero, Int.toNat_natCast]
  cases a with
  | none => simp
  | some a => simp [Addr.add]
theorem run_cutLI (a : Option Addr) (len cap k : Nat) (hk : k ≤ len) (w : World) :
    (Instr.sliceAt 37 (.slice a len cap) (some (.int .i64 (k : Int))) none none).run Try.prog w = .ok (.slice (cutA a cap k) (len - k) (cap - k)) w := by
  have ht : Try.prog.underlying 37 = some (.slice (Try.prog.elem 37)) := by kernel_rfl
  rw [run_sliceAt_slice _ _ _ _ _ _ ht, run_slice_l w _ a len cap ht .i64 (k : Int) (by omega) (by omega), elemInt, sizeInt]
  simp only [Result.andThen, sliced, Nat.mul_one, Int.toNat_natCast, cutA]
theorem Is.cutL {w : World} {a : Option Addr} {cap : Nat} {l : List Int} (h : Is w a cap l) (k : Nat) (hk : k ≤ l.length) : Is w (cutA a cap k) (cap - k) (l.drop k) := by
  have hc := h.hcap
  have hm := h.hmax
  unfold cutA
  by_cases hz : l.drop k = []
  · rw [hz]
    exact ⟨Nat.zero_le _, by omega, by simp, by simp⟩
  · have h1 : 0 < (l.drop k).length := List.length_pos_iff.2 hz
    rw [List.length_drop] at h1
    obtain ⟨b, o, rfl, hcl⟩ := h.hcells (by omega)
    rw [if_neg (by omega)]
    refine ⟨by rw [List.length_drop]; omega, by omega, fun x hx => h.hwf x (List.mem_of_mem_drop hx), fun h0 => ⟨b, o + k, by simp [Addr.add_lit], fun j hj => ?_⟩⟩
    rw [List.length_drop] at hj
    have := hcl (k + j) (by omega)
    rw [Nat.add_assoc, this]
    simp [List.getD]
end Go.Proofs.Ytahemoakehbchaa
