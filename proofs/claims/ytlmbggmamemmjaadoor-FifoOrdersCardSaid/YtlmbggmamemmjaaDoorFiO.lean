
/- Layer 16's laws, what they ask of lists; frames' slices cut. No conditions. -/
import Derived.Test.YtlmbggmamemmjaaDoorFiV
import Derived.Test.YtlmbggmamemmjaaDoorFiX
namespace Go.Proofs.YtlmbggmamemmjaaDoor
set_option linter.unusedVariables false
set_option linter.unusedSimpArgs false
open Go.RowKit

theorem elemFr : Tryd.prog.elem 30 = 36 := by kernel_rfl
theorem sizeFr (w : World) : (sizeOf 36).run Tryd.prog w = .ok 11 w := by kernel_rfl
def cutFr (a : Option Addr) (cap k : Nat) : Option Addr := if cap = k then a else a.map fun x => x.add (k * 11)
theorem run_cutFrL (a : Option Addr) (len cap k : Nat) (hk : k ≤ len) (w : World) :
    (Instr.sliceAt 30 (.slice a len cap) (some (.int .i64 (k : Int))) none none).run Tryd.prog w = .ok (.slice (cutFr a cap k) (len - k) (cap - k)) w := by
  have ht : Tryd.prog.underlying 30 = some (.slice (Tryd.prog.elem 30)) := by kernel_rfl
  rw [run_sliceAt_slice _ _ _ _ _ _ ht, run_slice_l w _ a len cap ht .i64 (k : Int) (by omega) (by omega), elemFr, sizeFr]
  simp only [Result.andThen, sliced, Int.toNat_natCast, cutFr]
theorem run_cutFrH (a : Option Addr) (len cap k : Nat) (hk : k ≤ cap) (w : World) :
    (Instr.sliceAt 30 (.slice a len cap) none (some (.int .i64 (k : Int))) none).run Tryd.prog w = .ok (.slice a k cap) w := by
  have ht : Tryd.prog.underlying 30 = some (.slice (Tryd.prog.elem 30)) := by kernel_rfl
  rw [run_sliceAt_slice _ _ _ _ _ _ ht, run_slice_h w _ a len cap ht .i64 (k : Int) (by omega) (by omega), elemFr, sizeFr]
  simp only [Result.andThen, sliced, Nat.zero_mul, Nat.sub_zero, Int.toNat_natCast]
  cases a with
  | none => simp
  | some a => simp [Addr.add]
/-- What stands in a fifo into which these went. -/
structure StO (n : Nat) (L : List (Hd × List Nat)) (q : Fi) : Prop where
  room : q.room = n
  its : q.its = L.take n
  over : q.over = L.length - n
theorem StO.new (room : Nat) : StO room [] ⟨room, 0, []⟩ := ⟨rfl, by simp, by simp⟩
theorem StO.len {room : Nat} {L : List (Hd × List Nat)} {q : Fi} (h : StO room L q) : q.its.length = min room L.length := by rw [h.its, List.length_take]
theorem StO.pushB {room : Nat} {L : List (Hd × List Nat)} {q : Fi} (h : StO room L q) {f : Hd} {l : List Nat} (hok : okF f l = true) : q.pushB f l = decide (L.length < room) := by
  unfold Fi.pushB
  rw [hok, Bool.true_and, h.len, h.room]
  by_cases hl : L.length < room
  · rw [decide_eq_true hl, decide_eq_true (by omega)]
  · rw [decide_eq_false hl, decide_eq_false (by omega)]
theorem StO.push {room : Nat} {L : List (Hd × List Nat)} {q : Fi} (h : StO room L q) {f : Hd} {l : List Nat} (hok : okF f l = true) : StO room (L ++ [(f, l)]) (q.push f l) := by
  have hl := h.len
  unfold Fi.push
  rw [hok, if_pos rfl, hl, h.room]
  by_cases hlt : L.length < room
  · rw [if_pos (by omega)]
    refine ⟨rfl, ?_, ?_⟩
    · show q.its ++ _ = _
      rw [h.its, List.take_of_length_le (by omega), List.take_of_length_le (by rw [List.length_append, List.length_singleton]; omega)]
    · show q.over = _
      rw [h.over, List.length_append, List.length_singleton]
      omega
  · rw [if_neg (by omega)]
    refine ⟨rfl, ?_, ?_⟩
    · show q.its = _
      rw [h.its, List.take_append_of_le_length (by omega)]
    · show q.over + 1 = _
      rw [h.over, List.length_append, List.length_singleton]
      omega
/-- A row that is set apart was appended to. -/
theorem FiX.row {w w4 w5 : World} {v : Value} {q : Fi} {X : Nat → Prop} {o : Obj} {mv vo : Value} (h : FiX w w4 v q X) (hX : ∀ g, mv.ownBlock = some g → X g ∧ w.heap.size ≤ g) (hk : Kp (fun k => mv.ownBlock = some k) (w4.alloc o) w5) (hf : ∀ g, vo.ownBlock = some g → mv.ownBlock = some g ∨ w4.heap.size + 1 ≤ g) (hlt : ∀ g, vo.ownBlock = some g → g < w5.heap.size) : FiX w w5 v q (fun k => X k ∨ vo.ownBlock = some k) := by
  obtain ⟨F, h1, h2, h3, h4⟩ := h
  have hs := hk.size
  rw [World.size_alloc] at hs
  refine ⟨F, fi_keep (fi_keep h1 (Kp.ofNb (F := fun _ => False) (Nb.rfl.al o)) (by simp)) hk (fun k q r => (h2 k q).2 (hX k r).1), fun k hk' => ⟨(h2 k hk').1, fun q => ?_⟩, fun k q => ?_, (h4.al o).trans (hk.toBelow (by rw [World.size_alloc]; have := h4.size; omega) fun k q => (hX k q).2)⟩
  · rcases q with q | q
    · exact (h2 k hk').2 q
    · rcases hf k q with r | r
      · exact (h2 k hk').2 (hX k r).1
      · have := fi_lt h1 k hk'
        omega
  · rcases q with q | q
    · have := h3 k q
      omega
    · exact hlt k q
theorem push_bad {q : Fi} {f : Hd} {l : List Nat} (hok : okF f l = false) : q.push f l = q ∧ q.pushB f l = false := by simp [Fi.push, Fi.pushB, hok]
/-- The cells of one of a row of the own call. -/
theorem OwnF.at {w : World} {g n cap : Nat} {M : List FrI} {D : Option Addr → Nat → List Nat → Prop} (h : OwnF w (.slice (some ⟨g, 0, none⟩) n cap) M) (hr : RowF D M) {j : Nat} (hj : j < M.length) {K I : Int} {X R B E S : Bool} {V1 V A : Int} {l : List Nat} (hf : (M.map Prod.fst).getD j dF = (⟨K, I, X, R, B, E, S, V1, V, A⟩, l)) :
    ∃ a' c', D a' c' l ∧ ∀ w', Nb w w' → (w'.cell? ⟨g, j * 11, none⟩ = some (.int .i64 K) ∧ w'.cell? ⟨g, j * 11 + 1, none⟩ = some (.int .u32 I) ∧ w'.cell? ⟨g, j * 11 + 2, none⟩ = some (.bool X) ∧ w'.cell? ⟨g, j * 11 + 3, none⟩ = some (.bool R) ∧ w'.cell? ⟨g, j * 11 + 4, none⟩ = some (.bool B) ∧ w'.cell? ⟨g, j * 11 + 5, none⟩ = some (.bool E) ∧ w'.cell? ⟨g, j * 11 + 6, none⟩ = some (.bool S) ∧ w'.cell? ⟨g, j * 11 + 7, none⟩ = some (.int .u8 V1) ∧ w'.cell? ⟨g, j * 11 + 8, none⟩ = some (.int .u8 V) ∧ w'.cell? ⟨g, j * 11 + 9, none⟩ = some (.int .u32 A) ∧ w'.cell? ⟨g, j * 11 + 10, none⟩ = some (.slice a' l.length c')) := by
  rw [getD_fst M hj] at hf
  obtain ⟨a', c', e, hd⟩ := hr.at hj
  rw [hf] at e hd
  refine ⟨a', c', hd, fun w' nb => ?_⟩
  have k := fun i (hi : i < 11) => cell_nb (f := ⟨K, I, X, R, B, E, S, V1, V, A⟩) (v := .slice a' l.length c') hi ((h.cell hj hi).trans (by rw [hf, e])) nb
  exact ⟨k 0 (by omega), k 1 (by omega), k 2 (by omega), k 3 (by omega), k 4 (by omega), k 5 (by omega), k 6 (by omega), k 7 (by omega), k 8 (by omega), k 9 (by omega), k 10 (by omega)⟩
/-- A fifo out of which so many were taken. -/
def Fi.off (q : Fi) (k : Nat) : Fi := ⟨q.room, q.over, q.its.drop k⟩
theorem Fi.off_zero (q : Fi) : q.off 0 = q := rfl
theorem Fi.off_pop (q : Fi) (k : Nat) : (q.off k).pop = q.off (k + 1) := by
  show (⟨q.room, q.over, (q.its.drop k).tail⟩ : Fi) = ⟨q.room, q.over, q.its.drop (k + 1)⟩
  rw [List.tail_drop]
theorem Fi.off_head (q : Fi) (k : Nat) : (q.off k).head = q.its.getD k dF := by
  show (q.its.drop k).getD 0 dF = _
  simp [List.getD, List.getElem?_drop]
theorem Fi.off_popE {q : Fi} {k : Nat} (h : k < q.its.length) : (q.off k).popE = 0 := by
  have : (q.its.drop k).length = q.its.length - k := List.length_drop
  show (if (q.its.drop k).length = 0 then 9 else 0) = 0
  rw [if_neg (by omega)]
theorem Fi.off_end {q : Fi} {k : Nat} (h : q.its.length ≤ k) : (q.off k).popE = 9 ∧ (q.off k).head = dF := by
  have : q.its.drop k = [] := List.drop_eq_nil_of_le h
  constructor
  · show (if (q.its.drop k).length = 0 then 9 else 0) = 9
    rw [this]
    rfl
  · show (q.its.drop k).getD 0 dF = dF
    rw [this]
    rfl
theorem getD_take {L : List (Hd × List Nat)} {n k : Nat} (h : k < n) : (L.take n).getD k dF = L.getD k dF := by simp [List.getD, h]
end Go.Proofs.YtlmbggmamemmjaaDoor
