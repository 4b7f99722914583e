
/- What an argument's cells are: a struct's fields, a slice of bytes, without a bound by the reach. No conditions. -/
import Derived.Test.YtaiplhlcldbnkaaDoorFre
import Derived.OpenShut
import Derived.Below
import Derived.Lib.SmallJoins
namespace Go.Proofs.YtaiplhlcldbnkaaDoor
set_option linter.unusedVariables false
set_option linter.unusedSimpArgs false
open Go.RowKit Go.ChangeShapes Go.WideShapes

theorem open_fld {H : Type} {enc : TypeId × Value → H} {P : Program} {w : World} {base : Nat} {spare : Nat → Bool} {held : Bool} {fuel : Nat} {t : TypeId} {cs : List Value} {x : DataW H × List MemPlace} {fs : Array Field}
    (hs : P.underlying t = some (.struct fs)) (h : DataW.trod enc P w base spare held fuel t cs = some x) (i : Nat) (f : Field) (hi : fs[i]? = some f) :
    ∃ m y, DataW.trod enc P w base spare held m f.type ((cs.drop f.offset).take (P.cellsOf f.type)) = some y := by
  obtain ⟨xs, n, _, _, _, hlen, hf⟩ := DataW.trod_struct hs h
  have hb : i < xs.length := by rw [hlen]; exact (Array.getElem?_eq_some_iff.1 hi).1
  exact ⟨n, xs[i], by rw [hf i f hi, List.getElem?_eq_getElem hb]⟩

/-- A slice of bytes that came in. -/
theorem bytes_open {H : Type} {enc : TypeId × Value → H} {w : World} {fuel : Nat} {v : Value} {y : DataW H × List MemPlace}
    (h : DataW.trod enc Tryd.prog w 0 (fun _ => true) true fuel 23 [v] = some y) :
    ∃ a cap l, v = .slice a (List.length l) cap ∧ Bs w a cap l ∧ (a = none → cap = 0) := by
  rcases Go.ChangeShapes.open_ints Tryd.underlying23 Tryd.underlying5 (by kernel_rfl) h with ⟨hcs, _⟩ | ⟨x, l, c, zs, hcs, _, hl, hm, hz, hy, hcell, hwz⟩
  · simp at hcs
    exact ⟨none, 0, [], by simpa using hcs, Bs.nil w, fun _ => rfl⟩
  · simp at hcs
    obtain ⟨l', hl', hb⟩ := Bs.ofRow (w := w) (a := some x) (len := l) (cap := c) (zs := zs) (.inr ⟨x, rfl, hl, hm, by simpa using hz, hcell, hwz⟩)
    subst hl'
    exact ⟨some x, c, l', hcs, hb, by simp⟩

/-! Parts of a slice of bytes: l[:k] and l[k:]. -/
def cutA (a : Option Addr) (cap k : Nat) : Option Addr := if cap = k then a else a.map (·.add k)
theorem elemU8 : Tryd.prog.elem 23 = 5 := by kernel_rfl
theorem sizeU8 (w : World) : (sizeOf 5).run Tryd.prog w = .ok 1 w := by kernel_rfl
theorem run_cutH (a : Option Addr) (len cap k : Nat) (hk : k ≤ cap) (w : World) :
    (Instr.sliceAt 23 (.slice a len cap) none (some (.int .i64 (k : Int))) none).run Tryd.prog w = .ok (.slice a k cap) w := by
  have ht : Tryd.prog.underlying 23 = some (.slice (Tryd.prog.elem 23)) := by kernel_rfl
  rw [run_sliceAt_slice _ _ _ _ _ _ ht, run_slice_h w _ a len cap ht .i64 (k : Int) (by omega) (by omega), elemU8, sizeU8]
  simp only [Result.andThen, sliced, Nat.zero_mul, Nat.sub_zero, Int.toNat_natCast]
  cases a with
  | none => simp
  | some a => simp [Addr.add]
theorem run_cutL (a : Option Addr) (len cap k : Nat) (hk : k ≤ len) (w : World) :
    (Instr.sliceAt 23 (.slice a len cap) (some (.int .i64 (k : Int))) none none).run Tryd.prog w = .ok (.slice (cutA a cap k) (len - k) (cap - k)) w := by
  have ht : Tryd.prog.underlying 23 = some (.slice (Tryd.prog.elem 23)) := by kernel_rfl
  rw [run_sliceAt_slice _ _ _ _ _ _ ht, run_slice_l w _ a len cap ht .i64 (k : Int) (by omega) (by omega), elemU8, sizeU8]
  simp only [Result.andThen, sliced, Nat.mul_one, Int.toNat_natCast, cutA]
theorem Bs.cutL {w : World} {a : Option Addr} {cap : Nat} {l : List Nat} (h : Bs w a cap l) (k : Nat) (hk : k ≤ l.length) : Bs w (cutA a cap k) (cap - k) (l.drop k) := by
  have hc := h.hcap
  have hm := h.hmax
  unfold cutA
  by_cases hz : l.drop k = []
  · rw [hz]
    exact ⟨Nat.zero_le _, by omega, by simp, by simp⟩
  · have h1 : 0 < (l.drop k).length := List.length_pos_iff.2 hz
    rw [List.length_drop] at h1
    obtain ⟨b, o, rfl, _⟩ := h.hcells (by omega)
    rw [if_neg (by omega)]
    have := h.tail k hk
    by_cases h0 : k = 0
    · subst h0; simpa [Addr.add] using this
    · simpa [Addr.add, h0] using this

/-- A guarded operation whose guard says yes: as if it bore none. -/
theorem wpList_want {P : Program} {ops : Array Oper} {Q : Exit → Act → World → Prop} {a : Act} {w : World} {rest : List Oper} {o : Oper}
    (hw : Region.wanted o (yielded ops a.tmps) = true) (h : wpList P ops Q ({ o with guard := none } :: rest) a w) : wpList P ops Q (o :: rest) a w := by
  have h2 : Region.wanted { o with guard := none } (yielded ops a.tmps) = true := rfl
  unfold wpList at h ⊢
  rw [if_pos hw]
  rw [if_pos h2] at h
  exact h
end Go.Proofs.YtaiplhlcldbnkaaDoor
