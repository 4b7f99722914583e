
/- What an argument's cells are: a struct's fields, a slice of bytes, without a bound by the reach. No conditions. -/
import Derived.Test.YtahemoakehbchaaFre
import Derived.OpenShut
import Derived.Below
import Derived.Lib.SmallJoins
namespace Go.Proofs.Ytahemoakehbchaa
set_option linter.unusedVariables false
set_option linter.unusedSimpArgs false
open Go.RowKit Go.ChangeShapes Go.WideShapes

theorem open_fld {H : Type} {enc : TypeId × Value → H} {P : Program} {w : World} {base : Nat} {spare : Nat → Bool} {held : Bool} {fuel : Nat} {t : TypeId} {cs : List Value} {x : DataW H × List MemPlace} {fs : Array Field}
    (hs : P.underlying t = some (.struct fs)) (h : DataW.trod enc P w base spare held fuel t cs = some x) (i : Nat) (f : Field) (hi : fs[i]? = some f) :
    ∃ m y, DataW.trod enc P w base spare held m f.type ((cs.drop f.offset).take (P.cellsOf f.type)) = some y := by
  obtain ⟨xs, n, _, _, _, hlen, hf⟩ := DataW.trod_struct hs h
  have hb : i < xs.length := by rw [hlen]; exact (Array.getElem?_eq_some_iff.1 hi).1
  exact ⟨n, xs[i], by rw [hf i f hi, List.getElem?_eq_getElem hb]⟩

/-! Parts of a slice of bytes: l[:k] and l[k:]. -/
def cutA (a : Option Addr) (cap k : Nat) : Option Addr := if cap = k then a else a.map (·.add k)
theorem sizeU8 (w : World) : (sizeOf 5).run Try.prog w = .ok 1 w := by kernel_rfl
theorem Bs.cutL {w : World} {a : Option Addr} {cap : Nat} {l : List Nat} (h : Bs w a cap l) (k : Nat) (hk : k ≤ l.length) : Bs w (cutA a cap k) (cap - k) (l.drop k) := by
  have hc := h.hcap
  have hm := h.hmax
  unfold cutA
  by_cases hz : l.drop k = []
  · rw [hz]
    exact ⟨Nat.zero_le _, by omega, by simp, by simp⟩
  · have h1 : 0 < (l.drop k).length := List.length_pos_iff.2 hz
    rw [List.length_drop] at h1
    obtain ⟨b, o, rfl, _⟩ := h.hcells (by omega)
    rw [if_neg (by omega)]
    have := h.tail k hk
    by_cases h0 : k = 0
    · subst h0; simpa [Addr.add] using this
    · simpa [Addr.add, h0] using this

/-- A guarded operation whose guard says yes: as if it bore none. -/
theorem wpList_want {P : Program} {ops : Array Oper} {Q : Exit → Act → World → Prop} {a : Act} {w : World} {rest : List Oper} {o : Oper}
    (hw : Region.wanted o (yielded ops a.tmps) = true) (h : wpList P ops Q ({ o with guard := none } :: rest) a w) : wpList P ops Q (o :: rest) a w := by
  have h2 : Region.wanted { o with guard := none } (yielded ops a.tmps) = true := rfl
  unfold wpList at h ⊢
  rw [if_pos hw]
  rw [if_pos h2] at h
  exact h
end Go.Proofs.Ytahemoakehbchaa
