
/- Bytes in blocks that are known, that may be stored into; so many bytes, stored into one by one. No conditions. -/
import Derived.Test.YtlmbggmamemmjaaDoorGa
namespace Go.Proofs.YtlmbggmamemmjaaDoor
set_option linter.unusedVariables false
set_option linter.unusedSimpArgs false
open Go.RowKit

/-- A slice of bytes in blocks of P, that may be stored into. -/
def DatP (w : World) (a : Option Addr) (c : Nat) (l : List Nat) (P : Nat → Prop) : Prop := Bs w a c l ∧ ∀ b o t, a = some ⟨b, o, t⟩ → 0 < l.length → P b ∧ ∀ i, w.frozen? ⟨b, o + i, none⟩ = false
theorem Bs.keepKpZ {G : Nat → Prop} {w w' : World} {a : Option Addr} {c : Nat} {l : List Nat} (h : Bs w a c l) (hk : Kp G w w') (hn : ∀ b o t, a = some ⟨b, o, t⟩ → 0 < l.length → ¬ G b) : Bs w' a c l := by
  refine ⟨h.hcap, h.hmax, h.hbyte, fun hl => ?_⟩
  obtain ⟨b, o, ha, hc⟩ := h.hcells hl
  refine ⟨b, o, ha, fun j hj => ?_⟩
  have h1 := hc j hj
  have hb := World.block_lt_of_cell? _ _ h1
  have e := hk.block b hb (hn b o none ha hl)
  rw [← h1]
  simp only [World.cell?, e]
theorem DatP.keep {F P : Nat → Prop} {w w' : World} {a : Option Addr} {c : Nat} {l : List Nat} (h : DatP w a c l P) (hk : Kp F w w') (hn : ∀ k, P k → ¬ F k) : DatP w' a c l P := by
  refine ⟨h.1.keepKpZ hk fun b o t e hl => hn b (h.2 b o t e hl).1, fun b o t e hl => ?_⟩
  obtain ⟨h1, h2⟩ := h.2 b o t e hl
  refine ⟨h1, fun i => ?_⟩
  obtain ⟨b', o', e', hc⟩ := h.1.hcells hl
  have e2 := e.symm.trans e'
  simp only [Option.some.injEq, Addr.mk.injEq] at e2
  obtain ⟨rfl, rfl, _⟩ := e2
  have hlt := World.block_lt_of_cell? _ _ (hc 0 hl)
  have eb := hk.block b hlt (hn b h1)
  have := h2 i
  simpa only [World.frozen?, eb] using this
theorem DatP.nb {P : Nat → Prop} {w w' : World} {a : Option Addr} {c : Nat} {l : List Nat} (h : DatP w a c l P) (hb : Nb w w') : DatP w' a c l P := h.keep (F := fun _ => False) (Kp.ofNb hb) (by simp)
theorem DatP.up {P Q : Nat → Prop} {w : World} {a : Option Addr} {c : Nat} {l : List Nat} (h : DatP w a c l P) (hq : ∀ k, P k → Q k) : DatP w a c l Q := ⟨h.1, fun b o t e hl => ⟨hq b (h.2 b o t e hl).1, (h.2 b o t e hl).2⟩⟩
/-- So many bytes, whatever they are, in blocks of X, that may be stored into. -/
def MutS (w : World) (a : Option Addr) (c n : Nat) (X : Nat → Prop) : Prop := ∃ m : List Nat, m.length = n ∧ DatP w a c m X
theorem DatP.mut {w : World} {a : Option Addr} {c : Nat} {l : List Nat} {X : Nat → Prop} (h : DatP w a c l X) : MutS w a c l.length X := ⟨l, rfl, h⟩
theorem MutS.keep {F X : Nat → Prop} {w w' : World} {a : Option Addr} {c n : Nat} (h : MutS w a c n X) (hk : Kp F w w') (hn : ∀ k, X k → ¬ F k) : MutS w' a c n X := by
  obtain ⟨m, h1, h2⟩ := h
  exact ⟨m, h1, h2.keep hk hn⟩
theorem MutS.nb {X : Nat → Prop} {w w' : World} {a : Option Addr} {c n : Nat} (h : MutS w a c n X) (hb : Nb w w') : MutS w' a c n X := h.keep (F := fun _ => False) (Kp.ofNb hb) (by simp)
theorem MutS.at {w : World} {a : Option Addr} {c n : Nat} {X : Nat → Prop} (h : MutS w a c n X) {k : Nat} (hk : k < n) : ∃ b o x, a = some ⟨b, o, none⟩ ∧ X b ∧ n ≤ c ∧ c ≤ maxLen ∧ x < 256 ∧ w.cell? ⟨b, o + k, none⟩ = some (.int .u8 (x : Nat)) ∧ w.frozen? ⟨b, o + k, none⟩ = false ∧ b < w.heap.size ∧ ∀ v, v < 256 → MutS (w.setCell ⟨b, o + k, none⟩ (.int .u8 (v : Nat))) a c n X := by
  obtain ⟨m, rfl, hb, hf⟩ := h
  obtain ⟨b, o, rfl, hc⟩ := hb.hcells (by omega)
  obtain ⟨hX, hfz⟩ := hf b o none rfl (by omega)
  have hck := hc k hk
  refine ⟨b, o, m.getD k 0, rfl, hX, hb.hcap, hb.hmax, ?_, hck, hfz k, World.block_lt_of_cell? _ _ hck, fun v hv => ⟨m.set k v, by simp, ⟨by simpa using hb.hcap, hb.hmax, fun x hx => ?_, fun _ => ⟨b, o, rfl, fun j hj => ?_⟩⟩, fun b' o' t e _ => ?_⟩⟩
  · have := hb.hbyte (m.getD k 0) (by simp [List.getD, hk])
    exact this
  · rcases List.mem_or_eq_of_mem_set hx with h | rfl
    · exact hb.hbyte x h
    · exact hv
  · rw [List.length_set] at hj
    by_cases hjk : k = j
    · subst hjk
      rw [World.cell?_setCell_same' _ _ _ (by rw [hck]; rfl)]
      simp [List.getD, hk]
    · rw [World.cell?_setCell_other _ _ _ _ (fun e => by (simp at e) <;> omega), hc j hj]
      simp [List.getD, List.getElem?_set_ne hjk]
  · simp only [Option.some.injEq, Addr.mk.injEq] at e
    obtain ⟨rfl, rfl, _⟩ := e
    exact ⟨hX, fun i => by rw [World.frozen?_setCell]; exact hfz i⟩
theorem OwnB.dat {w : World} {a : Option Addr} {c : Nat} {l : List Nat} {X : Nat → Prop} (h : OwnB w (.slice a l.length c) l) (hX : ∀ g, Value.ownBlock (.slice a l.length c) = some g → X g) : DatP w a c l X := by
  refine ⟨h.asBs.1, fun b o t e hl => ?_⟩
  subst e
  obtain ⟨b', c', hsh⟩ := h.shape (by omega)
  simp only [Value.slice.injEq, Option.some.injEq, Addr.mk.injEq, true_and] at hsh
  obtain ⟨⟨rfl, rfl, rfl⟩, rfl⟩ := hsh
  exact ⟨hX b rfl, fun i => by rw [Nat.zero_add]; exact h.frozen rfl i⟩
end Go.Proofs.YtlmbggmamemmjaaDoor
