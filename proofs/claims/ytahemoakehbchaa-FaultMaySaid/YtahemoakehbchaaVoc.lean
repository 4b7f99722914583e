
/- Words for byte rows and for memory, shared by the contracts: Bs says that a slice of bytes reads as a list of numbers, Nb that nothing that was there has turned. No conditions. -/
import Derived.Test.YtahemoakehbchaaProg
import Derived.WalkKit
import Derived.ProofKit
import Derived.OpenShut
import Derived.Below
import Derived.WalkSmall
import Derived.BigQuiet
import Derived.Deep.QuietTactic
import Derived.Lib.Hide
namespace Go.Proofs.Ytahemoakehbchaa
set_option linter.unusedVariables false
set_option linter.unusedSimpArgs false
open Go.RowKit

/-- Nothing that was there has turned. -/
abbrev Nb (w w' : World) : Prop := Below w.heap.size w w'

theorem Nb.rfl {w : World} : Nb w w := Below.refl _ _
theorem Nb.drewN (w : World) (n : Nat) : Nb w (w.drewN n) := below_drewN (Below.refl _ _) n
theorem Nb.al {w w1 : World} (h : Nb w w1) (o : Obj) : Nb w (w1.alloc o) := h.alloc h.size o
theorem Nb.st {w w1 : World} (h : Nb w w1) {p : Addr} (hp : w.heap.size ≤ p.block) (u : Value) : Nb w (w1.setCell p u) := h.setCell hp u
theorem Nb.tr {a b c : World} (h : Nb a b) (k : Nb b c) : Nb a c := h.trans (k.mono h.size)
theorem Nb.tr' {B : Nat} {a b c : World} (h : Below B a b) (k : Nb b c) (hB : B ≤ b.heap.size) : Below B a c := h.trans (k.mono hB)

/-- The slice value with this address and this capacity reads as these bytes. -/
structure Bs (w : World) (a : Option Addr) (cap : Nat) (l : List Nat) : Prop where
  hcap : l.length ≤ cap
  hmax : cap ≤ maxLen
  hbyte : ∀ x ∈ l, x < 256
  hcells : 0 < l.length → ∃ b o, a = some ⟨b, o, none⟩ ∧ ∀ j, j < l.length → w.cell? ⟨b, o + j, none⟩ = some (.int .u8 ((l.getD j 0 : Nat) : Int))

theorem Bs.len {w : World} {a : Option Addr} {cap : Nat} {l : List Nat} (h : Bs w a cap l) : l.length ≤ 9223372036854775807 := by
  have h1 := h.hcap
  have h2 := h.hmax
  unfold maxLen at h2
  omega

theorem Bs.getD_lt {w : World} {a : Option Addr} {cap : Nat} {l : List Nat} (h : Bs w a cap l) (j : Nat) : l.getD j 0 < 256 := by
  by_cases hj : j < l.length
  · have e : l.getD j 0 = l[j] := by simp [List.getD, hj]
    rw [e]
    exact h.hbyte _ (List.getElem_mem hj)
  · simp [List.getD, List.getElem?_eq_none (by omega : l.length ≤ j)]

theorem Bs.below {w w' : World} {a : Option Addr} {cap : Nat} {l : List Nat} (h : Bs w a cap l) (hb : Nb w w') : Bs w' a cap l := by
  refine ⟨h.hcap, h.hmax, h.hbyte, fun hl => ?_⟩
  obtain ⟨b, o, ha, hc⟩ := h.hcells hl
  exact ⟨b, o, ha, fun j hj => by
    have := hc j hj
    rw [hb.cell (p := ⟨b, o + j, none⟩) (World.block_lt_of_cell? _ _ this)]
    exact this⟩

theorem Bs.nil (w : World) : Bs w none 0 [] := ⟨Nat.le_refl _, by simp [maxLen], by simp, by simp⟩

theorem Bs.drewN {w : World} {a : Option Addr} {cap : Nat} {l : List Nat} (h : Bs w a cap l) (n : Nat) : Bs (w.drewN n) a cap l := h.below (Nb.drewN _ _)

/-- What was there has turned in the blocks of F alone. -/
structure Kp (F : Nat → Prop) (w w' : World) : Prop where
  os : w'.os = w.os
  tape : w'.tape = w.tape
  output : w'.output = w.output
  size : w.heap.size ≤ w'.heap.size
  block : ∀ k, k < w.heap.size → ¬ F k → w'.heap[k]? = w.heap[k]?

theorem Kp.rfl {F : Nat → Prop} {w : World} : Kp F w w := ⟨Eq.refl _, Eq.refl _, Eq.refl _, Nat.le_refl _, fun _ _ _ => Eq.refl _⟩
theorem Kp.tr {F F' : Nat → Prop} {a b c : World} (h : Kp F a b) (k : Kp F' b c) (hF : ∀ k, F' k → F k ∨ a.heap.size ≤ k) : Kp F a c :=
  ⟨k.os.trans h.os, k.tape.trans h.tape, k.output.trans h.output, Nat.le_trans h.size k.size, fun i hi hn => (k.block i (Nat.lt_of_lt_of_le hi h.size) (fun hf => by rcases hF i hf with h1 | h1; exact hn h1; omega)).trans (h.block i hi hn)⟩
theorem Kp.mono {F F' : Nat → Prop} {a b : World} (h : Kp F a b) (hF : ∀ k, k < a.heap.size → F k → F' k) : Kp F' a b := ⟨h.os, h.tape, h.output, h.size, fun i hi hn => h.block i hi (fun hf => hn (hF i hi hf))⟩
theorem Kp.ofNb {F : Nat → Prop} {w w' : World} (h : Nb w w') : Kp F w w' := ⟨h.os, h.tape, h.output, h.size, fun k hk _ => h.block k hk⟩
theorem Kp.toBelow {F : Nat → Prop} {B : Nat} {w w' : World} (h : Kp F w w') (hB : B ≤ w.heap.size) (hF : ∀ k, F k → B ≤ k) : Below B w w' :=
  ⟨h.os, h.tape, h.output, h.size, fun k hk => h.block k (by omega) (fun hf => by have := hF k hf; omega)⟩
theorem Kp.grown {F : Nat → Prop} {w w' : World} {row : Option Nat} (hg : w.grownBy w' row) (hF : ∀ k, row = some k → F k) : Kp F w w' :=
  ⟨hg.os, hg.tape, hg.output, hg.size, fun k hk hn => hg.block k hk (fun e => hn (hF k e.symm))⟩
theorem Kp.set {F : Nat → Prop} {w : World} {p : Addr} {u : Value} (hF : F p.block) : Kp F w (w.setCell p u) :=
  ⟨Eq.refl _, Eq.refl _, Eq.refl _, by simp [World.setCell], fun k _ hn => Below.heap_setCell _ _ _ _ (fun e => hn (e ▸ hF))⟩
theorem Kp.alloc {F : Nat → Prop} {w : World} {o : Obj} : Kp F w (w.alloc o) := Kp.ofNb ((Below.refl _ _).alloc (Nat.le_refl _) o)

/-- Block R holds these cells. -/
def Blk (w : World) (R : Nat) (cs : Array Value) (t : TypeId) : Prop := w.heap[R]? = some (.cells cs t (0, 0))
theorem Blk.lt {w : World} {R : Nat} {cs : Array Value} {t : TypeId} (h : Blk w R cs t) : R < w.heap.size := (Array.getElem?_eq_some_iff.1 h).1
theorem Blk.cell {w : World} {R : Nat} {cs : Array Value} {t : TypeId} (h : Blk w R cs t) (j : Nat) : w.cell? ⟨R, j, none⟩ = cs[j]? := by
  unfold Blk at h
  simp [World.cell?, h]
theorem Blk.frozen {w : World} {R : Nat} {cs : Array Value} {t : TypeId} (h : Blk w R cs t) (j : Nat) : w.frozen? ⟨R, j, none⟩ = false := by
  unfold Blk at h
  simp [World.frozen?, h]
theorem Blk.set {w : World} {R : Nat} {cs : Array Value} {t : TypeId} (h : Blk w R cs t) (j : Nat) (u : Value) : Blk (w.setCell ⟨R, j, none⟩ u) R (cs.setIfInBounds j u) t := by
  unfold Blk at *
  simp [World.setCell, Array.getElem?_modify, h]
theorem Blk.keep {F : Nat → Prop} {w w' : World} {R : Nat} {cs : Array Value} {t : TypeId} (h : Blk w R cs t) (hk : Kp F w w') (hn : ¬ F R) : Blk w' R cs t := (hk.block R h.lt hn).trans h
theorem Blk.nb {w w' : World} {R : Nat} {cs : Array Value} {t : TypeId} (h : Blk w R cs t) (hk : Nb w w') : Blk w' R cs t := (hk.block R h.lt).trans h
theorem Blk.new (w : World) (cs : Array Value) (t : TypeId) : Blk (w.alloc (.cells cs t)) w.heap.size cs t := heap_alloc_new w _
theorem Blk.other {w : World} {R : Nat} {cs : Array Value} {t : TypeId} (h : Blk w R cs t) {p : Addr} (hp : R ≠ p.block) (u : Value) : Blk (w.setCell p u) R cs t := (Below.heap_setCell _ _ _ _ hp).trans h

theorem infoU8 : (Try.prog.info? 5).map (fun i => (i.zero, i.size, i.bytes)) = some (some (.int .u8 0), 1, 1) := by kernel_rfl

/-- A slice of bytes that is the call's own: it can be appended to. -/
def OwnB (w : World) (v : Value) (l : List Nat) : Prop := w.ownsRow 0 5 1 v l.length (l.map fun x : Nat => Value.int .u8 (x : Int)) ∧ ∀ x ∈ l, x < 256

theorem OwnB.keep {F : Nat → Prop} {w w' : World} {v : Value} {l : List Nat} (h : OwnB w v l) (hk : Kp F w w') (hn : ∀ g, v.ownBlock = some g → ¬ F g) : OwnB w' v l := by
  obtain ⟨⟨h1, h2⟩, h3⟩ := h
  refine ⟨⟨h1, ?_⟩, h3⟩
  rcases h2 with h2 | ⟨g, cap, cur, rfl, hb, hg, r⟩
  · exact .inl h2
  · exact .inr ⟨g, cap, cur, rfl, hb, (hk.block g (Array.getElem?_eq_some_iff.1 hg).1 (hn g rfl)).trans hg, r⟩
theorem OwnB.lt {w : World} {v : Value} {l : List Nat} (h : OwnB w v l) {g : Nat} (hg : v.ownBlock = some g) : g < w.heap.size := (h.1.lt g hg).2
theorem OwnB.frozen {w : World} {v : Value} {l : List Nat} (h : OwnB w v l) {g : Nat} (hg : v.ownBlock = some g) (j : Nat) : w.frozen? ⟨g, j, none⟩ = false := by
  rcases h.1.2 with ⟨rfl, h2⟩ | ⟨g', cap, cur, rfl, hb, hh, r⟩
  · simp [Value.ownBlock] at hg
  · simp [Value.ownBlock] at hg
    subst hg
    simp [World.frozen?, hh]
theorem OwnB.setByte {w : World} {v : Value} {l : List Nat} (h : OwnB w v l) {g : Nat} (hg : v.ownBlock = some g) (j : Nat) (hj : j < l.length) (y : Nat) (hy : y < 256) : OwnB (w.setCell ⟨g, j, none⟩ (.int .u8 y)) v (l.set j y) := by
  obtain ⟨⟨h1, h2⟩, h3⟩ := h
  refine ⟨⟨by simp, ?_⟩, fun x hx => by rcases List.mem_or_eq_of_mem_set hx with h | rfl; exact h3 x h; exact hy⟩
  rcases h2 with ⟨rfl, h2⟩ | ⟨g', cap, cur, rfl, hb, hh, hn, hm, hs, ht⟩
  · simp [Value.ownBlock] at hg
  · simp [Value.ownBlock] at hg
    subst hg
    refine .inr ⟨g', cap, cur.setIfInBounds j (.int .u8 y), by simp, hb, by simp [World.setCell, Array.getElem?_modify, hh], by simpa using hn, hm, by simpa using hs, ?_⟩
    rw [Nat.mul_one] at ht
    rw [List.length_set, Nat.mul_one, Array.toList_setIfInBounds, List.take_set, ht, List.map_set]
theorem OwnB.bs {w : World} {v : Value} {l : List Nat} (h : OwnB w v l) : ∃ a cap, v = .slice a l.length cap ∧ Bs w a cap l ∧ (∀ b o s, a = some ⟨b, o, s⟩ → v.ownBlock = some b) := by
  rcases h.1.2 with ⟨rfl, h2⟩ | ⟨g, cap, cur, rfl, hb, hg, hn, hcap, hs, ht⟩
  · have hl : l = [] := List.length_eq_zero_iff.1 h2
    subst hl
    exact ⟨none, 0, rfl, Bs.nil w, by simp⟩
  · refine ⟨some ⟨g, 0, none⟩, cap, rfl, ⟨hn, hcap, h.2, fun _ => ⟨g, 0, rfl, fun j hj => ?_⟩⟩, by rintro b o s e; cases e; rfl⟩
    have hc := h.1.cells (g := g) rfl j (.int .u8 ((l.getD j 0 : Nat) : Int)) (by simp [List.getD, hj])
    rw [Addr.add_lit] at hc
    exact hc

theorem ret_int' {k : IntKind} {a b : Int} (h : a = b) : Ending.returned (.int k a) = .returned (.int k b) := by rw [h]

theorem nat_of_beq {a b : Nat} (h : (((a : Nat) : Int) == ((b : Nat) : Int)) = true) : a = b := by have := beq_iff_eq.1 h; omega
theorem nat_of_bne {a b : Nat} (h : (((a : Nat) : Int) == ((b : Nat) : Int)) = false) : ¬ a = b := by have := beq_eq_false_iff_ne.1 h; omega

end Go.Proofs.Ytahemoakehbchaa
