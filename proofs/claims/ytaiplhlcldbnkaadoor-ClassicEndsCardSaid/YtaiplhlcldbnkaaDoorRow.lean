
/- The step that appends one bit to a row of bits, by itself and embedded. Condition: a row below 2 to the 46. -/
import Derived.Test.YtaiplhlcldbnkaaDoorApp
namespace Go.Proofs.YtaiplhlcldbnkaaDoor
set_option linter.unusedVariables false
set_option linter.unusedSimpArgs false
open Go.RowKit

/-- The footprint of an object in block R whose slice is v. -/
def Foot (R : Nat) (v : Value) (k : Nat) : Prop := k = R ∨ v.ownBlock = some k

/-- A row (a struct of one slice of bytes) in block R. -/
structure RowAt (w : World) (t : TypeId) (R : Nat) (v : Value) (l : List Nat) : Prop where
  blk : Blk w R #[v] t
  own : OwnB w v l
  ne : v.ownBlock ≠ some R

theorem RowAt.keep {F : Nat → Prop} {w w' : World} {t : TypeId} {R : Nat} {v : Value} {l : List Nat} (h : RowAt w t R v l) (hk : Kp F w w') (hn : ∀ k, Foot R v k → ¬ F k) : RowAt w' t R v l :=
  ⟨h.blk.keep hk (hn R (.inl rfl)), h.own.keep hk (fun g hg => hn g (.inr hg)), h.ne⟩
theorem RowAt.lt {w : World} {t : TypeId} {R : Nat} {v : Value} {l : List Nat} (h : RowAt w t R v l) : ∀ k, Foot R v k → k < w.heap.size := by
  rintro k (rfl | hk)
  · exact h.blk.lt
  · exact h.own.lt hk

/-- What a step that appends leaves. -/
def RowStep (w : World) (t : TypeId) (R : Nat) (v : Value) (l : List Nat) (w' : World) : Prop :=
  ∃ v', RowAt w' t R v' l ∧ Kp (Foot R v) w w' ∧ ∀ k, Foot R v' k → Foot R v k ∨ w.heap.size ≤ k

/-- The same, of a row that is embedded: at offset o of a block of cells cs. -/
structure RowIn (w : World) (t : TypeId) (R o : Nat) (cs : Array Value) (v : Value) (l : List Nat) : Prop where
  blk : Blk w R cs t
  here : cs[o]? = some v
  own : OwnB w v l
  ne : v.ownBlock ≠ some R

def RowInStep (w : World) (t : TypeId) (R o : Nat) (cs : Array Value) (v : Value) (l : List Nat) (w' : World) : Prop :=
  ∃ v', RowIn w' t R o (cs.setIfInBounds o v') v' l ∧ Kp (Foot R v) w w' ∧ ∀ k, Foot R v' k → Foot R v k ∨ w.heap.size ≤ k

set_option maxHeartbeats 800000 in
set_option maxRecDepth 100000 in
theorem rowbitIn (R o : Nat) (t : TypeId) (cs : Array Value) (v : Value) (l : List Nat) (x : Nat) (w : World) (h : RowIn w t R o cs v l) (hx : x < 256) (hl : l.length < 70368744177664) :
    Calls Tryd.prog 77 #[.pointer (some ⟨R, o, none⟩), .int .u8 x] w fun e w' => e = .returned (.tuple #[]) ∧ RowInStep w t R o cs v (l ++ [x]) w' := by
  have c0 : w.cell? ⟨R, o, none⟩ = some v := (h.blk.cell o).trans h.here
  have f0 := h.blk.frozen o
  have hRlt := h.blk.lt
  have hal : Kp (fun _ => False) w (w.alloc (.cells #[.int .u8 (x : Int)] 5)) := Kp.alloc
  have hown := h.own.keep hal (by simp)
  have hbl := h.blk.keep hal (by simp)
  have hne := h.ne
  have HERE := Lib.hid h.here
  clear h
  go_enter Tryd.func77, Tryd.ntmps77
  go_wp2_with (at_builtin; refine wpList_appB _ rfl (.tmp 8) (.tmp 10) rfl v l rfl hown _ _ [x] 1 rfl rfl (Bs.one w x hx _) (by simp) (by simp; omega) ?_)
  intro v' w1 hown' hk hfr
  obtain ⟨g, cap, rfl⟩ := hown'.shape (by simp)
  have hbl' := hbl.keep hk hne
  have hg : g ≠ R := by
    rintro rfl
    rcases hfr g rfl with h1 | h1
    · exact hne h1
    · have := hal.size; omega
  have c1 : w1.cell? ⟨R, o, none⟩ = some v := (hbl'.cell o).trans HERE.out
  have f1 := hbl'.frozen o
  have ho : o < cs.size := (Array.getElem?_eq_some_iff.1 HERE.out).1
  have hfin : RowInStep w t R o cs v (l ++ [x]) (w1.setCell ⟨R, o, none⟩ (.slice (some ⟨g, 0, none⟩) (l ++ [x]).length cap)) := by
    refine ⟨_, ⟨hbl'.set o _, by simp [ho], hown'.keep (Kp.set (F := (· = R)) rfl) (by simpa [Value.ownBlock] using hg), by simpa [Value.ownBlock] using hg⟩, ?_, ?_⟩
    · exact ((hal.mono (fun _ _ h => h.elim)).tr (hk.mono (fun k _ h => .inr h)) (fun k h => .inl h)).tr (Kp.set (F := (· = R)) rfl) (fun k h => .inl (.inl h))
    · rintro k (rfl | hk)
      · exact .inl (.inl rfl)
      · rcases hfr k hk with h1 | h1
        · exact .inl (.inr h1)
        · exact .inr (by omega)
  clear hown' hk hfr hbl' hal hown hbl
  go_wp2
  go_end0
  exact ⟨rfl, by simpa using hfin⟩

theorem rowbit_any (R : Nat) (v : Value) (l : List Nat) (x : Nat) (w : World) (h : RowAt w 103 R v l) (hx : x < 256) (hl : l.length < 70368744177664) :
    Calls Tryd.prog 77 #[.pointer (some ⟨R, 0, none⟩), .int .u8 x] w fun e w' => e = .returned (.tuple #[]) ∧ RowStep w 103 R v (l ++ [x]) w' :=
  (rowbitIn R 0 103 #[v] v l x w ⟨h.blk, rfl, h.own, h.ne⟩ hx hl).mono fun _ _ ⟨he, v', hr, hk, hf⟩ => ⟨he, v', ⟨by simpa using hr.blk, hr.own, hr.ne⟩, hk, hf⟩
end Go.Proofs.YtaiplhlcldbnkaaDoor
