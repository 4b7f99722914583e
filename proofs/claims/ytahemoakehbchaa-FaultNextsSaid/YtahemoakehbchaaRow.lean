
/- The step that appends one bit to a row of bits, by itself and embedded. Condition: a row below 2 to the 46. -/
import Derived.Test.YtahemoakehbchaaApp
namespace Go.Proofs.Ytahemoakehbchaa
set_option linter.unusedVariables false
set_option linter.unusedSimpArgs false
open Go.RowKit

/-- The footprint of an object in block R whose slice is v. -/
def Foot (R : Nat) (v : Value) (k : Nat) : Prop := k = R ∨ v.ownBlock = some k

/-- A row (a struct of one slice of bytes) in block R. -/
structure RowAt (w : World) (t : TypeId) (R : Nat) (v : Value) (l : List Nat) : Prop where
  blk : Blk w R #[v] t
  own : OwnB w v l
  ne : v.ownBlock ≠ some R

theorem RowAt.keep {F : Nat → Prop} {w w' : World} {t : TypeId} {R : Nat} {v : Value} {l : List Nat} (h : RowAt w t R v l) (hk : Kp F w w') (hn : ∀ k, Foot R v k → ¬ F k) : RowAt w' t R v l :=
  ⟨h.blk.keep hk (hn R (.inl rfl)), h.own.keep hk (fun g hg => hn g (.inr hg)), h.ne⟩
theorem RowAt.lt {w : World} {t : TypeId} {R : Nat} {v : Value} {l : List Nat} (h : RowAt w t R v l) : ∀ k, Foot R v k → k < w.heap.size := by
  rintro k (rfl | hk)
  · exact h.blk.lt
  · exact h.own.lt hk

/-- What a step that appends leaves. -/
def RowStep (w : World) (t : TypeId) (R : Nat) (v : Value) (l : List Nat) (w' : World) : Prop :=
  ∃ v', RowAt w' t R v' l ∧ Kp (Foot R v) w w' ∧ ∀ k, Foot R v' k → Foot R v k ∨ w.heap.size ≤ k

/-- The same, of a row that is embedded: at offset o of a block of cells cs. -/
structure RowIn (w : World) (t : TypeId) (R o : Nat) (cs : Array Value) (v : Value) (l : List Nat) : Prop where
  blk : Blk w R cs t
  here : cs[o]? = some v
  own : OwnB w v l
  ne : v.ownBlock ≠ some R

def RowInStep (w : World) (t : TypeId) (R o : Nat) (cs : Array Value) (v : Value) (l : List Nat) (w' : World) : Prop :=
  ∃ v', RowIn w' t R o (cs.setIfInBounds o v') v' l ∧ Kp (Foot R v) w w' ∧ ∀ k, Foot R v' k → Foot R v k ∨ w.heap.size ≤ k

end Go.Proofs.Ytahemoakehbchaa
