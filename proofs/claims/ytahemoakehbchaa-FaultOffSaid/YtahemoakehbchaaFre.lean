
/- Rows of bytes that are new since a world, parts of rows, and a bit turned. No conditions. -/
import Derived.Test.YtahemoakehbchaaChk
namespace Go.Proofs.Ytahemoakehbchaa
set_option linter.unusedVariables false
set_option linter.unusedSimpArgs false
open Go.RowKit

theorem madeCells_toList (n : Nat) : (madeCells #[.int .u8 0] n).toList = List.replicate n (.int .u8 0) := by
  apply List.ext_getElem?
  intro i
  by_cases hi : i < n
  · simp [madeCells, hi, List.getElem?_replicate, Nat.mod_one]
  · simp [madeCells, hi, List.getElem?_replicate]

theorem OwnB.full (w : World) (n : Nat) (hn : n ≤ 140737488355328) : OwnB (w.alloc (.cells (madeCells #[.int .u8 0] n) 5)) (.slice (some ⟨w.heap.size, 0, none⟩) n n) (List.replicate n 0) := by
  refine ⟨⟨by simp, .inr ⟨w.heap.size, n, madeCells #[.int .u8 0] n, by simp, Nat.zero_le _, heap_alloc_new w _, by simp, by unfold maxLen; omega, by simp [size_madeCells], ?_⟩⟩, by simp⟩
  rw [madeCells_toList]
  simp

theorem OwnB.nil (w : World) : OwnB w (.slice none 0 0) [] := ⟨World.ownsRow_nil _ _ _ _, by simp⟩
theorem OwnB.drewN {w : World} {v : Value} {l : List Nat} (h : OwnB w v l) (n : Nat) : OwnB (w.drewN n) v l := h

/-- A row of its own that is new since w. -/
def Fresh (w w' : World) (v : Value) (l : List Nat) : Prop := OwnB w' v l ∧ ∀ g, v.ownBlock = some g → w.heap.size ≤ g
theorem Fresh.keep {w w1 w2 : World} {v : Value} {l : List Nat} (h : Fresh w w1 v l) (hb : Nb w1 w2) : Fresh w w2 v l := ⟨h.1.keep (F := fun _ => False) (Kp.ofNb hb) (by simp), h.2⟩
theorem Bs.none_len {w : World} {c : Nat} {l : List Nat} (h : Bs w none c l) : l = [] := by
  cases l with
  | nil => rfl
  | cons x l =>
    obtain ⟨_, _, h, _⟩ := h.hcells (by simp)
    cases h

theorem Bs.three (w : World) (t : TypeId) : Bs (w.alloc (.cells #[.int .u8 1, .int .u8 0, .int .u8 1] t)) (some ⟨w.heap.size, 0, none⟩) 3 [1, 0, 1] :=
  ⟨Nat.le_refl _, by simp [maxLen], by simp, fun _ => ⟨_, _, rfl, fun j hj => by
    match j, hj with
    | 0, _ => simp
    | 1, _ => simp
    | 2, _ => simp⟩⟩

theorem Fresh.bs {w w' : World} {a : Option Addr} {c : Nat} {l : List Nat} (h : Fresh w w' (.slice a l.length c) l) : Bs w' a c l ∧ (a = none → c = 0) := by
  have h0 := h.1
  obtain ⟨a', c', hv, hb, _⟩ := h0.bs
  simp only [Value.slice.injEq, true_and] at hv
  obtain ⟨rfl, rfl⟩ := hv
  refine ⟨hb, fun ha => ?_⟩
  rcases h0.1.2 with ⟨h1, _⟩ | ⟨g, cap, cur, h1, _⟩
  · simp only [Value.slice.injEq] at h1
    exact h1.2.2
  · subst ha
    cases h1

theorem chk_sub {l m : List Nat} (h : chk l = true) (hm : ∀ x ∈ m, x ∈ l) (hl : m.length ≤ l.length) : chk m = true := by
  have h1 := chk_len h
  have h2 := chk_bit h
  simp only [chk, Bool.and_eq_true, decide_eq_true_eq, List.all_eq_true]
  exact ⟨by omega, fun x hx => h2 x (hm x hx)⟩

theorem Bs.head {w : World} {a : Option Addr} {cap : Nat} {l : List Nat} (h : Bs w a cap l) (n : Nat) : Bs w a cap (l.take n) := by
  have hc := h.hcap
  refine ⟨by rw [List.length_take]; omega, h.hmax, fun x hx => h.hbyte x (List.mem_of_mem_take hx), fun h0 => ?_⟩
  rw [List.length_take] at h0
  obtain ⟨b, o, ha, hcl⟩ := h.hcells (by omega)
  refine ⟨b, o, ha, fun j hj => ?_⟩
  rw [List.length_take] at hj
  rw [hcl j (by omega)]
  simp [List.getD, show j < n by omega]
theorem Bs.cut {w : World} {b o cap : Nat} {l : List Nat} (h : Bs w (some ⟨b, o, none⟩) cap l) (i n : Nat) (hi : i + n ≤ l.length) : Bs w (some ⟨b, o + i, none⟩) (cap - i) ((l.drop i).take n) := by
  have hlen : ((l.drop i).take n).length = n := by rw [List.length_take, List.length_drop]; omega
  have hc := h.hcap
  have hm := h.hmax
  refine ⟨by omega, by omega, fun x hx => h.hbyte x (List.mem_of_mem_drop (List.mem_of_mem_take hx)), fun h0 => ⟨b, o + i, rfl, fun j hj => ?_⟩⟩
  obtain ⟨b', o', he, hcl⟩ := h.hcells (by omega)
  simp only [Option.some.injEq, Addr.mk.injEq, and_true] at he
  obtain ⟨rfl, rfl⟩ := he
  have := hcl (i + j) (by omega)
  rw [Nat.add_assoc, this]
  simp [List.getD, show j < n by omega]

theorem Bs.tail {w : World} {b o cap : Nat} {l : List Nat} (h : Bs w (some ⟨b, o, none⟩) cap l) (i : Nat) (hi : i ≤ l.length) : Bs w (some ⟨b, o + i, none⟩) (cap - i) (l.drop i) := by
  have := h.cut i (l.length - i) (by omega)
  rwa [List.take_of_length_le (by rw [List.length_drop]; omega)] at this

theorem OwnB.fresh0 (w : World) : OwnB (w.alloc (.cells #[] 5)) (.slice (some ⟨w.heap.size, 0, none⟩) 0 0) [] :=
  ⟨⟨by simp, .inr ⟨w.heap.size, 0, #[], by simp, Nat.zero_le _, heap_alloc_new w _, Nat.zero_le _, by simp [maxLen], by simp, by simp⟩⟩, by simp⟩

theorem xor1 (m : Nat) (h : m ≤ 1) : bits BinOp.xor IntKind.u8 (m : Int) 1 = ((m ^^^ 1 : Nat) : Int) := by
  rcases (by omega : m = 0 ∨ m = 1) with rfl | rfl <;> decide +kernel
theorem xor1_le (m : Nat) (h : m ≤ 1) : m ^^^ 1 ≤ 1 := by
  rcases (by omega : m = 0 ∨ m = 1) with rfl | rfl <;> decide
theorem xor1_ne (m : Nat) (h : m ≤ 1) : m ^^^ 1 ≠ m := by
  rcases (by omega : m = 0 ∨ m = 1) with rfl | rfl <;> decide
theorem set_bits {m : List Nat} (h : ∀ b ∈ m, b ≤ 1) (k y : Nat) (hy : y ≤ 1) : ∀ b ∈ m.set k y, b ≤ 1 := fun b hb => by
  rcases List.mem_or_eq_of_mem_set hb with h1 | rfl
  · exact h b h1
  · exact hy
theorem set_getD (m : List Nat) (k y i : Nat) (hk : k < m.length) : (m.set k y).getD i 0 = if i = k then y else m.getD i 0 := by
  by_cases h : i = k
  · subst h; simp [List.getD, hk]
  · simp [List.getD, List.getElem?_set_ne (Ne.symm h), h]
theorem OwnB.cell {w : World} {g n cap : Nat} {m : List Nat} (h : OwnB w (.slice (some ⟨g, 0, none⟩) n cap) m) (k : Nat) (hk : k < m.length) : w.cell? ⟨g, k, none⟩ = some (.int .u8 ((m.getD k 0 : Nat) : Int)) := by
  obtain ⟨a', c', hv, hb, _⟩ := h.bs
  obtain ⟨b', o', rfl, hc⟩ := hb.hcells (by omega)
  simp only [Value.slice.injEq, Option.some.injEq, Addr.mk.injEq, and_true] at hv
  obtain ⟨⟨rfl, rfl⟩, _, _⟩ := hv
  have := hc k hk
  rwa [Nat.zero_add] at this
theorem OwnB.asBs {w : World} {a : Option Addr} {n c : Nat} {l : List Nat} (h : OwnB w (.slice a n c) l) : Bs w a c l ∧ n = l.length := by
  obtain ⟨a', c', hv, hb, _⟩ := h.bs
  simp only [Value.slice.injEq] at hv
  obtain ⟨rfl, rfl, rfl⟩ := hv
  exact ⟨hb, rfl⟩

/-- May a row be looked at? -/
def goodB (n : Nat) : Bool := decide (n ≤ 3000) || decide (65536 < n)

theorem hcf (F : Nat) (fn : Func) (hf : Try.prog.funcs[F]? = some fn) (hb : fn.body.isNone = false) (hn : (fn.name == "runtime.NumGoroutine") = false) : ∀ args w, (callFunc F args).run Try.prog w = .ok (.enter F args) w := by
  intro args w
  have h1 : ¬ fn.name = "runtime.NumGoroutine" := by simpa using hn
  have h2 : ¬ fn.body = none := by intro h; rw [h] at hb; simp at hb
  simp [callFunc, hf, h1, h2]

/-- What a law is told of a slice of bytes that came in. -/
theorem Bs.ofRow {w : World} {a : Option Addr} {len cap : Nat} {zs : List Int}
    (h : (a = none ∧ len = 0 ∧ cap = 0 ∧ zs = []) ∨ ∃ x, a = some x ∧ len ≤ cap ∧ cap ≤ maxLen ∧ zs.length = cap ∧ (∀ i, i < zs.length → w.cell? (x.add i) = some (.int .u8 (zs.getD i 0))) ∧ ∀ n ∈ zs, (Lit.int .u8 n).wf = true) :
    ∃ l : List Nat, len = l.length ∧ Bs w a cap l := by
  rcases h with ⟨rfl, rfl, rfl, rfl⟩ | ⟨x, rfl, hl, hm, hz, hc, hw⟩
  · exact ⟨[], rfl, Bs.nil w⟩
  · have hb : ∀ n ∈ zs, 0 ≤ n ∧ n < 256 := by
      intro n hn
      have := hw n hn
      simp [Lit.wf, IntKind.min, IntKind.max, IntKind.signed, IntKind.bits] at this
      omega
    refine ⟨(zs.take len).map Int.toNat, by rw [List.length_map, List.length_take]; omega, ?_⟩
    have hlen : ((zs.take len).map Int.toNat).length = len := by rw [List.length_map, List.length_take]; omega
    refine ⟨by omega, hm, ?_, fun h0 => ?_⟩
    · intro n hn
      obtain ⟨y, hy, rfl⟩ := List.mem_map.1 hn
      have := hb y (List.mem_of_mem_take hy)
      omega
    · obtain ⟨b, o, s⟩ := x
      have h1 := hc 0 (by omega)
      have hs : s = none := by simpa [Addr.add] using World.cell?_spot h1
      subst hs
      refine ⟨b, o, rfl, fun j hj => ?_⟩
      have h2 := hc j (by omega)
      rw [Addr.add_lit] at h2
      rw [h2]
      have hj' : j < zs.length := by omega
      have hn := hb zs[j] (List.getElem_mem hj')
      have e1 : zs.getD j 0 = zs[j] := by simp [List.getD, hj']
      have e2 : ((zs.take len).map Int.toNat).getD j 0 = zs[j].toNat := by
        simp only [List.getD, List.getElem?_map, List.getElem?_take, show j < len from by omega, if_true, List.getElem?_eq_getElem hj', Option.map_some, Option.getD_some]
      rw [e1, e2]
      congr 2
      omega
def chkE (l : List Nat) : Nat := if chk l then 0 else 2
/-- An answer of a slice of bytes and an error. -/
def AnsB (l : List Nat) (er : Nat) (e : Ending) (w' : World) : Prop := ∃ a c, e = .returned (.tuple #[.slice a l.length c, .int .i64 er]) ∧ Bs w' a c l
def AnsL (l : List Nat) (e : Ending) (w' : World) : Prop := ∃ a c, e = .returned (.slice a l.length c) ∧ Bs w' a c l

theorem u64_of_wf {a : Int} (h : (Lit.int .u64 a).wf = true) : ∃ n : Nat, a = n ∧ n < 2 ^ 64 := by
  have : 0 ≤ a ∧ a < 18446744073709551616 := by
    simp [Lit.wf, IntKind.min, IntKind.max, IntKind.signed, IntKind.bits] at h
    omega
  obtain ⟨n, rfl⟩ := Int.eq_ofNat_of_zero_le this.1
  exact ⟨n, rfl, by omega⟩
theorem u8_of_wf {a : Int} (h : (Lit.int .u8 a).wf = true) : ∃ n : Nat, a = n ∧ n < 256 := by
  have : 0 ≤ a ∧ a < 256 := by
    simp [Lit.wf, IntKind.min, IntKind.max, IntKind.signed, IntKind.bits] at h
    omega
  obtain ⟨n, rfl⟩ := Int.eq_ofNat_of_zero_le this.1
  exact ⟨n, rfl, by omega⟩
/-- An answer of a new slice of bytes and an error. -/
def AnsF (w : World) (l : List Nat) (er : Nat) (e : Ending) (w' : World) : Prop := ∃ a c, e = .returned (.tuple #[.slice a l.length c, .int .i64 er]) ∧ Fresh w w' (.slice a l.length c) l
theorem Fresh.nil (w w' : World) : Fresh w w' (.slice none 0 0) [] := ⟨OwnB.nil _, by simp [Value.ownBlock]⟩
/-- A step that appends onto a row that is new since w0. -/
theorem Fresh.app {w0 w w' : World} {v v' : Value} {l l' : List Nat} {o : Obj} (h : Fresh w0 w v l) (hnb : Nb w0 w) (ho : OwnB w' v' l') (hk : Kp (fun k => v.ownBlock = some k) (w.alloc o) w') (hf : ∀ g, v'.ownBlock = some g → v.ownBlock = some g ∨ w.heap.size + 1 ≤ g) : Fresh w0 w' v' l' ∧ Nb w0 w' := by
  have hs := hnb.size
  refine ⟨⟨ho, fun g hg => ?_⟩, (hnb.al o).trans (hk.toBelow (Nat.le_trans hs (by simp)) h.2)⟩
  rcases hf g hg with h1 | h1
  · exact h.2 g h1
  · omega
theorem run_min2 (w : World) (ts : Array TypeId) (t : TypeId) (k k' : IntKind) (x y : Int) :
    (Builtin.min_ ts t #[.int k x, .int k' y]).run Try.prog w = .ok (.int k (min x y)) w := by
  have e : (if y < x then y else x) = min x y := by
    rw [Int.min_def]
    split <;> split <;> omega
  simp [Builtin.min_, Builtin.min2, e]
end Go.Proofs.Ytahemoakehbchaa
