
/- A fifo as lists, and as cells that go round. No conditions. -/
import Derived.Test.YtlmbggmamemmjaaDoorFrs
import Derived.Test.YtlmbggmamemmjaaDoorDat
import Derived.Test.YtlmbggmamemmjaaDoorBks
import Derived.Test.YtlmbggmamemmjaaDoorGj
namespace Go.Proofs.YtlmbggmamemmjaaDoor
set_option linter.unusedVariables false
set_option linter.unusedSimpArgs false
open Go.RowKit

/-- A fifo as lists: its places, what found none, what stands there. -/
structure Fi where
  room : Nat
  over : Nat
  its : List (Hd × List Nat)
def Fi.pushB (q : Fi) (f : Hd) (l : List Nat) : Bool := okF f l && decide (q.its.length < q.room)
def Fi.push (q : Fi) (f : Hd) (l : List Nat) : Fi := if okF f l then (if q.its.length < q.room then ⟨q.room, q.over, q.its ++ [(f, l)]⟩ else ⟨q.room, q.over + 1, q.its⟩) else q
def Fi.pop (q : Fi) : Fi := ⟨q.room, q.over, q.its.tail⟩
def Fi.popE (q : Fi) : Nat := if q.its.length = 0 then 9 else 0
def Fi.head (q : Fi) : Hd × List Nat := q.its.getD 0 dF
def Fi.clear (q : Fi) : Fi := ⟨q.room, 0, []⟩
theorem okF_le {f : Hd} {l : List Nat} (h : okF f l = true) : l.length ≤ 2048 := by
  have h1 : hasF f.K (l.length : Int) = true := by
    cases hq : hasF f.K (l.length : Int) with
    | true => rfl
    | false => simp [okF, hq] at h
  obtain ⟨g1, g2⟩ := (hasF_iff _ _).1 h1
  have := atF_lt _ _ g1
  omega
structure Fi.Ok (q : Fi) : Prop where
  its : q.its.length ≤ q.room
  room : q.room ≤ 64
  len : ∀ x ∈ q.its, x.2.length ≤ 2048
theorem Fi.Ok.new {n : Nat} (h : n ≤ 64) : (⟨n, 0, []⟩ : Fi).Ok := ⟨Nat.zero_le _, h, fun x hx => by cases hx⟩
theorem Fi.Ok.at {q : Fi} (h : q.Ok) (j : Nat) : (q.its.getD j dF).2.length ≤ 2048 := by
  by_cases hj : j < q.its.length
  · rw [show q.its.getD j dF = q.its[j] by simp [List.getD, hj]]
    exact h.len _ (List.getElem_mem hj)
  · rw [show q.its.getD j dF = dF by simp [List.getD, List.getElem?_eq_none (by omega : q.its.length ≤ j)]]
    exact Nat.zero_le _
theorem Fi.Ok.push {q : Fi} (h : q.Ok) (f : Hd) (l : List Nat) : (q.push f l).Ok := by
  unfold Fi.push
  split
  · rename_i hok
    split
    · refine ⟨?_, h.room, fun x hx => ?_⟩
      · show (q.its ++ [(f, l)]).length ≤ q.room
        rw [List.length_append, List.length_singleton]
        omega
      · rcases List.mem_append.1 hx with hx | hx
        · exact h.len x hx
        · obtain rfl := List.mem_singleton.1 hx
          exact okF_le hok
    · exact ⟨h.its, h.room, h.len⟩
  · exact h
theorem Fi.Ok.pop {q : Fi} (h : q.Ok) : q.pop.Ok := ⟨by
  show q.its.tail.length ≤ q.room
  rw [List.length_tail]
  have := h.its
  omega, h.room, fun x hx => h.len x (List.mem_of_mem_tail hx)⟩
theorem Fi.push_room (q : Fi) (f : Hd) (l : List Nat) : (q.push f l).room = q.room := by
  unfold Fi.push
  split
  · split <;> rfl
  · rfl
theorem Fi.push_over (q : Fi) (f : Hd) (l : List Nat) : (q.push f l).over ≤ q.over + 1 := by
  unfold Fi.push
  split
  · split
    · exact Nat.le_succ _
    · exact Nat.le_refl _
  · exact Nat.le_succ _

/-- A frame's cells, as a list. -/
abbrev csL (f : Hd) (v : Value) : List Value := [.int .i64 f.K, .int .u32 f.I, .bool f.X, .bool f.R, .bool f.B, .bool f.E, .bool f.S, .int .u8 f.D, .int .u8 f.V, .int .u32 f.A, v]
theorem csL_eq (f : Hd) (v : Value) : (f.cs v).toList = csL f v := rfl
/-- These cells are a fifo's, the first one of it at that place. -/
structure FiC (w : World) (cs : Array Value) (first : Nat) (q : Fi) (D : Nat → Prop) : Prop where
  size : cs.size = 708
  c0 : cs[0]? = some (.int .i64 (q.room : Nat))
  c1 : cs[1]? = some (.int .i64 (q.over : Nat))
  c2 : cs[706]? = some (.int .i64 (first : Nat))
  c3 : cs[707]? = some (.int .i64 (q.its.length : Nat))
  ring : ∀ j, j < q.its.length → ∃ a c, (∀ i, i < 11 → cs[2 + (first + j) % 64 * 11 + i]? = (csL (q.its.getD j dF).1 (.slice a (q.its.getD j dF).2.length c))[i]?) ∧ DatP w a c (q.its.getD j dF).2 D
theorem FiC.keep {F D : Nat → Prop} {w w' : World} {cs : Array Value} {first : Nat} {q : Fi} (h : FiC w cs first q D) (hk : Kp F w w') (hn : ∀ k, D k → ¬ F k) : FiC w' cs first q D :=
  ⟨h.size, h.c0, h.c1, h.c2, h.c3, fun j hj => by
    obtain ⟨a, c, h1, h2⟩ := h.ring j hj
    exact ⟨a, c, h1, h2.keep hk hn⟩⟩
/-- The fifo at R; its bytes in blocks of D. -/
structure FiM (w : World) (R first : Nat) (q : Fi) (D : Nat → Prop) : Prop where
  blk : ∃ cs, Blk w R cs 59 ∧ FiC w cs first q D
  ap : ∀ k, D k → k ≠ R ∧ k < w.heap.size
  ok : q.Ok
  lt : first < 64
def FiAt (w : World) (v : Value) (q : Fi) (F : Nat → Prop) : Prop := ∃ R first D, v = .pointer (some ⟨R, 0, none⟩) ∧ FiM w R first q D ∧ ∀ k, F k ↔ (k = R ∨ D k)
theorem FiM.keep {F D : Nat → Prop} {w w' : World} {R first : Nat} {q : Fi} (h : FiM w R first q D) (hk : Kp F w w') (h1 : ¬ F R) (h2 : ∀ k, D k → ¬ F k) : FiM w' R first q D := by
  obtain ⟨⟨cs, hb, hc⟩, hap, ho, hl⟩ := h
  exact ⟨⟨cs, hb.keep hk h1, hc.keep hk h2⟩, fun k hd => ⟨(hap k hd).1, Nat.lt_of_lt_of_le (hap k hd).2 hk.size⟩, ho, hl⟩
theorem FiM.nb {D : Nat → Prop} {w w' : World} {R first : Nat} {q : Fi} (h : FiM w R first q D) (hk : Nb w w') : FiM w' R first q D := h.keep (F := fun _ => False) (Kp.ofNb hk) (by simp) (by simp)
theorem fi_ok {w : World} {v : Value} {q : Fi} {F : Nat → Prop} (h : FiAt w v q F) : q.Ok := by
  obtain ⟨R, first, D, _, m, _⟩ := h
  exact m.ok
theorem fi_keep {w w' : World} {v : Value} {q : Fi} {F G : Nat → Prop} (h : FiAt w v q F) (hk : Kp G w w') (hn : ∀ k, F k → ¬ G k) : FiAt w' v q F := by
  obtain ⟨R, first, D, e, m, hF⟩ := h
  exact ⟨R, first, D, e, m.keep hk (hn R ((hF R).2 (.inl rfl))) (fun k e => hn k ((hF k).2 (.inr e))), hF⟩
theorem fi_lt {w : World} {v : Value} {q : Fi} {F : Nat → Prop} (h : FiAt w v q F) : ∀ k, F k → k < w.heap.size := fun k hk => by
  obtain ⟨R, first, D, e, m, hF⟩ := h
  rcases (hF k).1 hk with rfl | hk
  · obtain ⟨cs, hb, _⟩ := m.blk
    exact hb.lt
  · exact (m.ap k hk).2
/-- Eleven cells of a block, whatever they are. -/
theorem Blk.slot {w : World} {R : Nat} {cs : Array Value} {t : TypeId} (h : Blk w R cs t) {o : Nat} (ho : o + 11 ≤ cs.size) :
    ∃ u0 u1 u2 u3 u4 u5 u6 u7 u8 u9 u10, w.cell? ⟨R, o, none⟩ = some u0 ∧ w.cell? ⟨R, o + 1, none⟩ = some u1 ∧ w.cell? ⟨R, o + 2, none⟩ = some u2 ∧ w.cell? ⟨R, o + 3, none⟩ = some u3 ∧ w.cell? ⟨R, o + 4, none⟩ = some u4 ∧ w.cell? ⟨R, o + 5, none⟩ = some u5 ∧ w.cell? ⟨R, o + 6, none⟩ = some u6 ∧ w.cell? ⟨R, o + 7, none⟩ = some u7 ∧ w.cell? ⟨R, o + 8, none⟩ = some u8 ∧ w.cell? ⟨R, o + 9, none⟩ = some u9 ∧ w.cell? ⟨R, o + 10, none⟩ = some u10 := by
  have g : ∀ i, i < 11 → w.cell? ⟨R, o + i, none⟩ = some (cs.getD (o + i) (.int .i64 0)) := fun i hi => by
    rw [h.cell]
    have : o + i < cs.size := by omega
    simp [Array.getD, this]
  exact ⟨_, _, _, _, _, _, _, _, _, _, _, g 0 (by omega), g 1 (by omega), g 2 (by omega), g 3 (by omega), g 4 (by omega), g 5 (by omega), g 6 (by omega), g 7 (by omega), g 8 (by omega), g 9 (by omega), g 10 (by omega)⟩
end Go.Proofs.YtlmbggmamemmjaaDoor
