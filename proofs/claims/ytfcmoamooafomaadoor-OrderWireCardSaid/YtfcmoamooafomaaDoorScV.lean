
/- What layer 9's contracts speak of: a status as a value, the answers of a row and of a machine. No program's own parts. No conditions. -/
import Derived.Test.YtfcmoamooafomaaDoorScK
import Derived.Test.YtfcmoamooafomaaDoorFrmH
namespace Go.Proofs.YtfcmoamooafomaaDoor
set_option linter.unusedVariables false
set_option linter.unusedSimpArgs false
open Go.RowKit

/-- A status as a value, its frame's bytes as v. -/
def staV (s : Sta) (v : Value) : Value := .agg #[.int .i64 s.k, .int .i64 s.e, .int .i64 s.f.K, .int .u32 s.f.I, .bool s.f.X, .bool s.f.R, .bool s.f.B, .bool s.f.E, .bool s.f.S, .int .u8 s.f.D, .int .u8 s.f.V, .int .u32 s.f.A, v]
def AnsT (s : Sta) (er : Nat) (e : Ending) (w' : World) : Prop := ∃ a c, e = .returned (.tuple #[staV s (.slice a s.l.length c), .int .i64 er]) ∧ Bs w' a c s.l
/-- What a row is told to be. -/
def rowS (kn : Bool) (x : List Nat) : Sta := if chk x then staOf (scS kn x) else moreS
/-- What seeing one bit more leaves: At is what is known of the machine, F its blocks. -/
def SeeS (At : World → Value → Bool → List Nat → (Nat → Prop) → Prop) (w : World) (v : Value) (kn : Bool) (x : List Nat) (F : Nat → Prop) (e : Ending) (w' : World) : Prop :=
  ∃ F', (∃ a c, e = .returned (.tuple #[staV (staOf (scS kn x)) (.slice a (staOf (scS kn x)).l.length c), .int .i64 0]) ∧ Bs w' a c (staOf (scS kn x)).l ∧ ∀ b o t, a = some ⟨b, o, t⟩ → F' b ∨ w.heap.size ≤ b) ∧
    At w' v kn x F' ∧ Kp F w w' ∧ ∀ k, F' k → F k ∨ w.heap.size ≤ k

/-- The bits among the first bytes of a row. -/
def seenL (l : List Nat) (j : Nat) : List Nat := (l.take j).filter (fun x => decide (x ≤ 1))
theorem seenL_len (l : List Nat) (j : Nat) : (seenL l j).length ≤ l.length := by
  unfold seenL
  have h1 := List.length_filter_le (fun x => decide (x ≤ 1)) (l.take j)
  rw [List.length_take] at h1
  omega
theorem seenL_bit (l : List Nat) (j : Nat) : ∀ x ∈ seenL l j, x ≤ 1 := by
  intro x hx
  have := (List.mem_filter.1 hx).2
  simpa using this
theorem seenL_succ {l : List Nat} {j : Nat} (h : j < l.length) : seenL l (j + 1) = if l.getD j 0 ≤ 1 then seenL l j ++ [l.getD j 0] else seenL l j := by
  unfold seenL
  rw [take_snoc' (x := l.getD j 0) (by simp [List.getD, List.getElem?_eq_getElem h]), List.filter_append]
  by_cases hb : l.getD j 0 ≤ 1
  · rw [if_pos hb, List.filter_cons, if_pos (by simpa using hb)]
    rfl
  · rw [if_neg hb, List.filter_cons, if_neg (by simpa using hb)]
    simp
/-- A slice of bytes whose block isn't turned. -/
theorem Bs.keepKp {G : Nat → Prop} {w w' : World} {a : Option Addr} {c : Nat} {l : List Nat} (h : Bs w a c l) (hk : Kp G w w') (hn : ∀ b o t, a = some ⟨b, o, t⟩ → ¬ G b) : Bs w' a c l := by
  refine ⟨h.hcap, h.hmax, h.hbyte, fun hl => ?_⟩
  obtain ⟨b, o, ha, hc⟩ := h.hcells hl
  refine ⟨b, o, ha, fun j hj => ?_⟩
  have h1 := hc j hj
  have hb := World.block_lt_of_cell? _ _ h1
  have e := hk.block b hb (hn b o none ha)
  rw [← h1]
  simp only [World.cell?, e]
end Go.Proofs.YtfcmoamooafomaaDoor
