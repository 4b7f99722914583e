/- The document's examples of layer 1 hold; and a slice of bytes that came in reads as a list. No conditions. -/
import Derived.Test.YtmfahnfmahahjaaDoorRefRead
namespace Go.Proofs.YtmfahnfmahahjaaDoor
open Go.RowKit

theorem isRun3 {k : Nat} (h : IsRun [0, 1, 1, 1] k) : k = 3 := h.uniq ⟨by decide, by decide, by decide⟩
theorem Bs.four (w : World) (t : TypeId) : Bs (w.alloc (.cells #[.int .u8 0, .int .u8 1, .int .u8 1, .int .u8 1] t)) (some ⟨w.heap.size, 0, none⟩) 4 [0, 1, 1, 1] :=
  ⟨Nat.le_refl _, by simp [maxLen], by simp, fun _ => ⟨_, _, rfl, fun j hj => by
    match j, hj with
    | 0, _ => simp
    | 1, _ => simp
    | 2, _ => simp
    | 3, _ => simp⟩⟩

/-- What a law is told of a slice of bytes that came in. -/
theorem Bs.ofRow {w : World} {a : Option Addr} {len cap : Nat} {zs : List Int}
    (h : (a = none ∧ len = 0 ∧ cap = 0 ∧ zs = []) ∨ ∃ x, a = some x ∧ len ≤ cap ∧ cap ≤ maxLen ∧ zs.length = cap ∧ (∀ i, i < zs.length → w.cell? (x.add i) = some (.int .u8 (zs.getD i 0))) ∧ ∀ n ∈ zs, (Lit.int .u8 n).wf = true) :
    ∃ l : List Nat, len = l.length ∧ Bs w a cap l := by
  rcases h with ⟨rfl, rfl, rfl, rfl⟩ | ⟨x, rfl, hl, hm, hz, hc, hw⟩
  · exact ⟨[], rfl, Bs.nil w⟩
  · have hb : ∀ n ∈ zs, 0 ≤ n ∧ n < 256 := by
      intro n hn
      have := hw n hn
      simp [Lit.wf, IntKind.min, IntKind.max, IntKind.signed, IntKind.bits] at this
      omega
    refine ⟨(zs.take len).map Int.toNat, by rw [List.length_map, List.length_take]; omega, ?_⟩
    have hlen : ((zs.take len).map Int.toNat).length = len := by rw [List.length_map, List.length_take]; omega
    refine ⟨by omega, hm, ?_, fun h0 => ?_⟩
    · intro n hn
      obtain ⟨y, hy, rfl⟩ := List.mem_map.1 hn
      have := hb y (List.mem_of_mem_take hy)
      omega
    · obtain ⟨b, o, s⟩ := x
      have h1 := hc 0 (by omega)
      have hs : s = none := by simpa [Addr.add] using World.cell?_spot h1
      subst hs
      refine ⟨b, o, rfl, fun j hj => ?_⟩
      have h2 := hc j (by omega)
      rw [Addr.add_lit] at h2
      rw [h2]
      have hj' : j < zs.length := by omega
      have hn := hb zs[j] (List.getElem_mem hj')
      have e1 : zs.getD j 0 = zs[j] := by simp [List.getD, hj']
      have e2 : ((zs.take len).map Int.toNat).getD j 0 = zs[j].toNat := by
        simp only [List.getD, List.getElem?_map, List.getElem?_take, show j < len from by omega, if_true, List.getElem?_eq_getElem hj', Option.map_some, Option.getD_some]
      rw [e1, e2]
      congr 2
      omega
end Go.Proofs.YtmfahnfmahahjaaDoor
