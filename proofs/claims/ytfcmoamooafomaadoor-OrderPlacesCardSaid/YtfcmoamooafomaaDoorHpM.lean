
/- The program's heap of places in memory: one asked, two exchanged, the last one taken. Condition: at most a thousand places. -/
import Derived.Test.YtfcmoamooafomaaDoorHpP
import Derived.Test.YtfcmoamooafomaaDoorGa
import Derived.BigRegion
import Derived.Deep.RegionHeld3
namespace Go.Proofs.YtfcmoamooafomaaDoor
set_option linter.unusedVariables false
set_option linter.unusedSimpArgs false
open Go.RowKit

/-- Block g holds places, two cells each. -/
def Rows2 (w : World) (g : Nat) (l : List (Nat × Nat)) : Prop := ∃ cs, Blk w g cs 67 ∧ l.length * 2 ≤ cs.size ∧ ∀ j, j < l.length → cs[j * 2]? = some (.int .u64 ((l.getD j d0).1 : Nat)) ∧ cs[j * 2 + 1]? = some (.int .i64 ((l.getD j d0).2 : Nat))
theorem Rows2.cell {w : World} {g : Nat} {l : List (Nat × Nat)} (h : Rows2 w g l) {j : Nat} (hj : j < l.length) :
    w.cell? ⟨g, j * 2, none⟩ = some (.int .u64 ((l.getD j d0).1 : Nat)) ∧ w.cell? ⟨g, j * 2 + 1, none⟩ = some (.int .i64 ((l.getD j d0).2 : Nat)) ∧ w.frozen? ⟨g, j * 2, none⟩ = false ∧ w.frozen? ⟨g, j * 2 + 1, none⟩ = false := by
  obtain ⟨cs, hb, _, hc⟩ := h
  exact ⟨(hb.cell _).trans (hc j hj).1, (hb.cell _).trans (hc j hj).2, hb.frozen _, hb.frozen _⟩
theorem Rows2.keep {F : Nat → Prop} {w w' : World} {g : Nat} {l : List (Nat × Nat)} (h : Rows2 w g l) (hk : Kp F w w') (hn : ¬ F g) : Rows2 w' g l := by
  obtain ⟨cs, hb, h1, h2⟩ := h
  exact ⟨cs, hb.keep hk hn, h1, h2⟩
theorem Rows2.lt {w : World} {g : Nat} {l : List (Nat × Nat)} (h : Rows2 w g l) : g < w.heap.size := by
  obtain ⟨cs, hb, _⟩ := h
  exact hb.lt
theorem Rows2.put {w : World} {g : Nat} {l : List (Nat × Nat)} (h : Rows2 w g l) {i : Nat} (p : Nat × Nat) :
    Rows2 ((w.setCell ⟨g, i * 2, none⟩ (.int .u64 (p.1 : Nat))).setCell ⟨g, i * 2 + 1, none⟩ (.int .i64 (p.2 : Nat))) g (l.set i p) := by
  obtain ⟨cs, hb, h1, h2⟩ := h
  refine ⟨_, (hb.set _ _).set _ _, by simpa using h1, fun j hj => ?_⟩
  rw [List.length_set] at hj
  obtain ⟨a1, a2⟩ := h2 j hj
  have b1 : j * 2 < cs.size := (Array.getElem?_eq_some_iff.1 a1).1
  have b2 : j * 2 + 1 < cs.size := (Array.getElem?_eq_some_iff.1 a2).1
  by_cases hij : i = j
  · subst hij
    have e : (l.set i p).getD i d0 = p := by simp [List.getD, hj]
    rw [e]
    constructor
    · rw [Array.getElem?_setIfInBounds_ne (by omega), Array.getElem?_setIfInBounds_self_of_lt b1]
    · rw [Array.getElem?_setIfInBounds_self_of_lt (by simpa using b2)]
  · have e : (l.set i p).getD j d0 = l.getD j d0 := by simp [List.getD, List.getElem?_set_ne hij]
    rw [e]
    constructor
    · rw [Array.getElem?_setIfInBounds_ne (by omega), Array.getElem?_setIfInBounds_ne (by omega)]
      exact a1
    · rw [Array.getElem?_setIfInBounds_ne (by omega), Array.getElem?_setIfInBounds_ne (by omega)]
      exact a2
theorem Rows2.less {w : World} {g : Nat} {l : List (Nat × Nat)} (h : Rows2 w g l) (n : Nat) : Rows2 w g (l.take n) := by
  obtain ⟨cs, hb, h1, h2⟩ := h
  refine ⟨cs, hb, by rw [List.length_take]; omega, fun j hj => ?_⟩
  rw [List.length_take] at hj
  have e : (l.take n).getD j d0 = l.getD j d0 := by simp [List.getD, show j < n by omega]
  rw [e]
  exact h2 j (by omega)

def ahF : Value := .func (.func 41) #[] #[]
/-- The heap at R, its places in block G. -/
structure PlAt (w : World) (R G : Nat) (a : Option Addr) (cap : Nat) (l : List (Nat × Nat)) : Prop where
  blk : Blk w R #[.slice a l.length cap, ahF] 70
  ne : G ≠ R
  hcap : l.length ≤ cap
  hmax : cap ≤ 9223372036854775807
  rows : 0 < l.length → a = some ⟨G, 0, none⟩ ∧ Rows2 w G l
theorem PlAt.keep {F : Nat → Prop} {w w' : World} {R G cap : Nat} {a : Option Addr} {l : List (Nat × Nat)} (h : PlAt w R G a cap l) (hk : Kp F w w') (h1 : ¬ F R) (h2 : ¬ F G) : PlAt w' R G a cap l :=
  ⟨h.blk.keep hk h1, h.ne, h.hcap, h.hmax, fun h0 => ⟨(h.rows h0).1, (h.rows h0).2.keep hk h2⟩⟩
theorem PlAt.nb {w w' : World} {R G cap : Nat} {a : Option Addr} {l : List (Nat × Nat)} (h : PlAt w R G a cap l) (hk : Nb w w') : PlAt w' R G a cap l := h.keep (F := fun _ => False) (Kp.ofNb hk) (by simp) (by simp)

set_option maxHeartbeats 400000 in
theorem plen_any (R G : Nat) (a : Option Addr) (cap : Nat) (l : List (Nat × Nat)) (w : World) (h : PlAt w R G a cap l) :
    Calls Tryd.prog 29 #[.pointer (some ⟨R, 0, none⟩)] w fun e w' => e = .returned (.int .i64 (l.length : Nat)) ∧ w = w' := by
  have c0 := h.blk.cell 0
  have c1 := h.blk.cell 1
  simp only [List.getElem?_toArray, List.getElem?_cons_zero, List.getElem?_cons_succ] at c0 c1
  clear h
  go_enter Tryd.func29, Tryd.ntmps29
  go_wp2
  go_ret
  exact ⟨rfl, rfl⟩

set_option maxHeartbeats 800000 in
theorem ahead_any (p q : Nat × Nat) (w : World) :
    Calls Tryd.prog 41 #[.agg #[.int .u64 (p.1 : Nat), .int .i64 (p.2 : Nat)], .agg #[.int .u64 (q.1 : Nat), .int .i64 (q.2 : Nat)]] w fun e w' => e = .returned (.bool (ahB p q)) ∧ Nb w w' := by
  obtain ⟨a, b⟩ := p
  obtain ⟨c, d⟩ := q
  unfold ahB
  simp only
  by_cases h : a = c
  · subst h
    rw [if_pos rfl]
    have d1 : ((a : Int) != (a : Int)) = false := by simp
    go_enter Tryd.func41, Tryd.ntmps41
    go_wp2
    go_ret
    exact ⟨by simp, (Nb.rfl.al _).al _⟩
  · rw [if_neg h]
    have d1 : ((a : Int) != (c : Int)) = true := by simp; omega
    have d2 : ((a : Int) == (c : Int)) = false := by simp; omega
    go_enter Tryd.func41, Tryd.ntmps41
    go_wp2
    go_ret
    exact ⟨by simp, (Nb.rfl.al _).al _⟩
end Go.Proofs.YtfcmoamooafomaaDoor
