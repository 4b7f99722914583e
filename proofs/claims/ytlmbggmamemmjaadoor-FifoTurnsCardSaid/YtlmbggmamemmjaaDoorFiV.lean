
/- Rows of frames: of the own call, appended to; read. No conditions but sizes. -/
import Derived.Test.YtlmbggmamemmjaaDoorFiP
import Derived.Deep.MidRow
namespace Go.Proofs.YtlmbggmamemmjaaDoor
set_option linter.unusedVariables false
set_option linter.unusedSimpArgs false
open Go.RowKit

theorem infoF : (Tryd.prog.info? 36).map (fun i => (i.zero, i.size, i.bytes)) = some (some (.agg #[.int .i64 0, .int .u32 0, .bool false, .bool false, .bool false, .bool false, .bool false, .int .u8 0, .int .u8 0, .int .u32 0, .slice none 0 0]), 11, 48) := by kernel_rfl
abbrev FrI := (Hd × List Nat) × Value
abbrev dFI : FrI := (dF, .slice none 0 0)
def cellsF (L : List FrI) : List Value := L.flatMap fun p => csL p.1.1 p.2
theorem csL_len (f : Hd) (v : Value) : (csL f v).length = 11 := rfl
theorem cellsF_len (L : List FrI) : (cellsF L).length = L.length * 11 := by
  induction L with
  | nil => rfl
  | cons p L ih =>
    show (csL p.1.1 p.2 ++ cellsF L).length = _
    rw [List.length_append, csL_len, ih, List.length_cons]
    omega
theorem cellsF_app (l m : List FrI) : cellsF (l ++ m) = cellsF l ++ cellsF m := by simp [cellsF]
theorem cellsF_get (L : List FrI) : ∀ j, j < L.length → ∀ i, i < 11 → (cellsF L)[j * 11 + i]? = (csL (L.getD j dFI).1.1 (L.getD j dFI).2)[i]? := by
  induction L with
  | nil => intro j h; simp at h
  | cons p L ih =>
    intro j h i hi
    have e : cellsF (p :: L) = csL p.1.1 p.2 ++ cellsF L := rfl
    rw [e]
    cases j with
    | zero =>
      rw [List.getElem?_append_left (by rw [csL_len]; omega), Nat.zero_mul, Nat.zero_add]
      rfl
    | succ j =>
      rw [List.getElem?_append_right (by rw [csL_len]; omega), csL_len, show (j + 1) * 11 + i - 11 = j * 11 + i by omega]
      exact ih j (by simpa using h) i hi
/-- The bytes of each lie in a slice of which D is so. -/
def RowF (D : Option Addr → Nat → List Nat → Prop) (L : List FrI) : Prop := ∀ p ∈ L, ∃ a c, p.2 = .slice a p.1.2.length c ∧ D a c p.1.2
theorem RowF.nil (D : Option Addr → Nat → List Nat → Prop) : RowF D [] := fun _ h => by cases h
theorem RowF.one {D : Option Addr → Nat → List Nat → Prop} {f : Hd} {l : List Nat} {a : Option Addr} {c : Nat} (h : D a c l) : RowF D [((f, l), .slice a l.length c)] := fun p hp => by
  obtain rfl := List.mem_singleton.1 hp
  exact ⟨a, c, rfl, h⟩
theorem RowF.app {D : Option Addr → Nat → List Nat → Prop} {L M : List FrI} (h : RowF D L) (k : RowF D M) : RowF D (L ++ M) := fun p hp => by
  rcases List.mem_append.1 hp with q | q
  · exact h p q
  · exact k p q
theorem RowF.imp {D E : Option Addr → Nat → List Nat → Prop} {L : List FrI} (h : RowF D L) (k : ∀ a c l, D a c l → E a c l) : RowF E L := fun p hp => by
  obtain ⟨a, c, e, d⟩ := h p hp
  exact ⟨a, c, e, k _ _ _ d⟩
theorem RowF.one' {D : Option Addr → Nat → List Nat → Prop} {L : List FrI} (h : RowF D L) : ∀ u ∈ cellsF L, u.oneCell' = true := fun u hu => by
  obtain ⟨p, hp, hm⟩ := List.mem_flatMap.1 hu
  obtain ⟨a, c, e, _⟩ := h p hp
  rw [e] at hm
  simp only [List.mem_cons, List.not_mem_nil, or_false] at hm
  rcases hm with rfl | rfl | rfl | rfl | rfl | rfl | rfl | rfl | rfl | rfl | rfl <;> rfl
/-- A row of frames of the own call. -/
def OwnF (w : World) (v : Value) (L : List FrI) : Prop := w.ownsRow 0 36 11 v L.length (cellsF L)
theorem OwnF.nil (w : World) : OwnF w (.slice none 0 0) [] := World.ownsRow_nil _ _ _ _
theorem OwnF.keep {F : Nat → Prop} {w w' : World} {v : Value} {L : List FrI} (h : OwnF w v L) (hk : Kp F w w') (hn : ∀ g, v.ownBlock = some g → ¬ F g) : OwnF w' v L := by
  obtain ⟨h1, h2⟩ := h
  refine ⟨h1, ?_⟩
  rcases h2 with h2 | ⟨g, cap, cur, rfl, hb, hg, r⟩
  · exact .inl h2
  · exact .inr ⟨g, cap, cur, rfl, hb, (hk.block g (Array.getElem?_eq_some_iff.1 hg).1 (hn g rfl)).trans hg, r⟩
theorem OwnF.nb {w w' : World} {v : Value} {L : List FrI} (h : OwnF w v L) (hb : Nb w w') : OwnF w' v L := h.keep (F := fun _ => False) (Kp.ofNb hb) (by simp)
theorem OwnF.lt {w : World} {v : Value} {L : List FrI} (h : OwnF w v L) {g : Nat} (hg : v.ownBlock = some g) : g < w.heap.size := (World.ownsRow.lt h g hg).2
theorem OwnF.shape {w : World} {v : Value} {L : List FrI} (h : OwnF w v L) : ∃ a c, v = .slice a L.length c ∧ (0 < L.length → ∃ g, a = some ⟨g, 0, none⟩) ∧ L.length ≤ c ∧ c ≤ maxLen ∧ (a = none → c = 0) := by
  rcases h.2 with ⟨rfl, h2⟩ | ⟨g, cap, cur, rfl, hb, hg, hn, hc, r⟩
  · exact ⟨none, 0, by rw [h2], fun h => by omega, by omega, by simp [maxLen], fun _ => rfl⟩
  · exact ⟨_, cap, rfl, fun _ => ⟨g, rfl⟩, hn, hc, fun h => by cases h⟩
theorem OwnF.cell {w : World} {g n cap : Nat} {L : List FrI} (h : OwnF w (.slice (some ⟨g, 0, none⟩) n cap) L) {j : Nat} (hj : j < L.length) {i : Nat} (hi : i < 11) : w.cell? ⟨g, j * 11 + i, none⟩ = (csL (L.getD j dFI).1.1 (L.getD j dFI).2)[i]? := by
  have hl : i < (csL (L.getD j dFI).1.1 (L.getD j dFI).2).length := hi
  have e := cellsF_get L j hj i hi
  rw [List.getElem?_eq_getElem hl] at e ⊢
  have hc := World.ownsRow.cells h (g := g) rfl (j * 11 + i) _ e
  rwa [Addr.add_lit, Nat.zero_add] at hc
/-- The slice value with this address and this capacity reads as these frames. -/
structure FrR (w : World) (a : Option Addr) (cap : Nat) (fs : List (Hd × List Nat)) : Prop where
  hcap : fs.length ≤ cap
  hmax : cap ≤ maxLen
  hcells : 0 < fs.length → ∃ b o, a = some ⟨b, o, none⟩ ∧ ∀ j, j < fs.length → ∃ a' c', (∀ i, i < 11 → w.cell? ⟨b, o + j * 11 + i, none⟩ = (csL (fs.getD j dF).1 (.slice a' (fs.getD j dF).2.length c'))[i]?) ∧ Bs w a' c' (fs.getD j dF).2
theorem FrR.nil (w : World) : FrR w none 0 [] := ⟨Nat.le_refl _, by simp [maxLen], by simp⟩
theorem FrR.len {w : World} {a : Option Addr} {cap : Nat} {fs : List (Hd × List Nat)} (h : FrR w a cap fs) : fs.length ≤ 9223372036854775807 := by
  have h1 := h.hcap
  have h2 := h.hmax
  unfold maxLen at h2
  omega
theorem cell_nb {w w' : World} {p : Addr} {f : Hd} {v : Value} {i : Nat} (hi : i < 11) (h : w.cell? p = (csL f v)[i]?) (hb : Nb w w') : w'.cell? p = (csL f v)[i]? := by
  rw [List.getElem?_eq_getElem (show i < (csL f v).length from hi)] at h ⊢
  rw [hb.cell (World.block_lt_of_cell? _ _ h)]
  exact h
theorem FrR.nb {w w' : World} {a : Option Addr} {cap : Nat} {fs : List (Hd × List Nat)} (h : FrR w a cap fs) (hb : Nb w w') : FrR w' a cap fs := by
  refine ⟨h.hcap, h.hmax, fun hl => ?_⟩
  obtain ⟨b, o, ha, hc⟩ := h.hcells hl
  refine ⟨b, o, ha, fun j hj => ?_⟩
  obtain ⟨a', c', h1, h2⟩ := hc j hj
  exact ⟨a', c', fun i hi => cell_nb hi (h1 i hi) hb, h2.below hb⟩
/-- What came in. -/
theorem FrsAt.rd {w : World} {a : Option Addr} {cap : Nat} {fs : List (Hd × List Nat)} (h : FrsAt w a cap fs) : FrR w a cap fs := by
  refine ⟨h.hcap, h.hmax, fun hl => ?_⟩
  obtain ⟨b, o, ha, hc⟩ := h.hcells hl
  refine ⟨b, o, ha, fun j hj => ?_⟩
  obtain ⟨a', c', h1, _, _, h4, _⟩ := hc j hj
  exact ⟨a', c', fun i hi => by
    have hl : i < (csL (fs.getD j dF).1 (.slice a' (fs.getD j dF).2.length c')).length := hi
    rw [List.getElem?_eq_getElem hl]
    exact h1 i _ (by rw [csL_eq, List.getElem?_eq_getElem hl]), h4⟩
/-- The same; its cells and its bytes in blocks of P, the bytes may be stored into. -/
structure FrP (w : World) (a : Option Addr) (cap : Nat) (fs : List (Hd × List Nat)) (P : Nat → Prop) : Prop where
  hcap : fs.length ≤ cap
  hmax : cap ≤ maxLen
  hcells : 0 < fs.length → ∃ b o, a = some ⟨b, o, none⟩ ∧ P b ∧ ∀ j, j < fs.length → ∃ a' c', (∀ i, i < 11 → w.cell? ⟨b, o + j * 11 + i, none⟩ = (csL (fs.getD j dF).1 (.slice a' (fs.getD j dF).2.length c'))[i]?) ∧ DatP w a' c' (fs.getD j dF).2 P
theorem FrP.nil (w : World) (P : Nat → Prop) : FrP w none 0 [] P := ⟨Nat.le_refl _, by simp [maxLen], by simp⟩
theorem FrP.rd {w : World} {a : Option Addr} {cap : Nat} {fs : List (Hd × List Nat)} {P : Nat → Prop} (h : FrP w a cap fs P) : FrR w a cap fs := by
  refine ⟨h.hcap, h.hmax, fun hl => ?_⟩
  obtain ⟨b, o, ha, _, hc⟩ := h.hcells hl
  refine ⟨b, o, ha, fun j hj => ?_⟩
  obtain ⟨a', c', h1, h2⟩ := hc j hj
  exact ⟨a', c', h1, h2.1⟩
theorem FrP.keep {F P : Nat → Prop} {w w' : World} {a : Option Addr} {cap : Nat} {fs : List (Hd × List Nat)} (h : FrP w a cap fs P) (hk : Kp F w w') (hn : ∀ k, P k → ¬ F k) : FrP w' a cap fs P := by
  refine ⟨h.hcap, h.hmax, fun hl => ?_⟩
  obtain ⟨b, o, ha, hp, hc⟩ := h.hcells hl
  refine ⟨b, o, ha, hp, fun j hj => ?_⟩
  obtain ⟨a', c', h1, h2⟩ := hc j hj
  exact ⟨a', c', fun i hi => by
    have q := h1 i hi
    have hl : i < (csL (fs.getD j dF).1 (.slice a' (fs.getD j dF).2.length c')).length := hi
    rw [List.getElem?_eq_getElem hl] at q ⊢
    have hlt := World.block_lt_of_cell? _ _ q
    have e := hk.block b hlt (hn b hp)
    rw [← q]
    simp only [World.cell?, e], h2.keep hk hn⟩
theorem FrP.nb {w w' : World} {a : Option Addr} {cap : Nat} {fs : List (Hd × List Nat)} {P : Nat → Prop} (h : FrP w a cap fs P) (hb : Nb w w') : FrP w' a cap fs P := h.keep (F := fun _ => False) (Kp.ofNb hb) (by simp)
theorem FrP.up {w : World} {a : Option Addr} {cap : Nat} {fs : List (Hd × List Nat)} {P Q : Nat → Prop} (h : FrP w a cap fs P) (hq : ∀ k, P k → Q k) : FrP w a cap fs Q := by
  refine ⟨h.hcap, h.hmax, fun hl => ?_⟩
  obtain ⟨b, o, ha, hp, hc⟩ := h.hcells hl
  refine ⟨b, o, ha, hq b hp, fun j hj => ?_⟩
  obtain ⟨a', c', h1, h2⟩ := hc j hj
  exact ⟨a', c', h1, h2.up hq⟩
/-- The same; its cells in blocks of B, its bytes in blocks of P. -/
structure FrP2 (w : World) (a : Option Addr) (cap : Nat) (fs : List (Hd × List Nat)) (B P : Nat → Prop) : Prop where
  hcap : fs.length ≤ cap
  hmax : cap ≤ maxLen
  hcells : 0 < fs.length → ∃ b o, a = some ⟨b, o, none⟩ ∧ B b ∧ ∀ j, j < fs.length → ∃ a' c', (∀ i, i < 11 → w.cell? ⟨b, o + j * 11 + i, none⟩ = (csL (fs.getD j dF).1 (.slice a' (fs.getD j dF).2.length c'))[i]?) ∧ DatP w a' c' (fs.getD j dF).2 P
theorem FrP2.frp {w : World} {a : Option Addr} {cap : Nat} {fs : List (Hd × List Nat)} {B P : Nat → Prop} (h : FrP2 w a cap fs B P) : FrP w a cap fs (fun k => P k ∨ B k) := by
  refine ⟨h.hcap, h.hmax, fun hl => ?_⟩
  obtain ⟨b, o, ha, hb, hc⟩ := h.hcells hl
  refine ⟨b, o, ha, .inr hb, fun j hj => ?_⟩
  obtain ⟨a', c', h1, h2⟩ := hc j hj
  exact ⟨a', c', h1, h2.up (fun k hk => .inl hk)⟩
/-- The cells of one. -/
theorem FrR.at {w : World} {b o cap : Nat} {fs : List (Hd × List Nat)} (h : FrR w (some ⟨b, o, none⟩) cap fs) {j : Nat} (hj : j < fs.length) {K I : Int} {X R B E S : Bool} {D V A : Int} {l : List Nat} (hf : fs.getD j dF = (⟨K, I, X, R, B, E, S, D, V, A⟩, l)) :
    ∃ a' c', ∀ w', Nb w w' → (w'.cell? ⟨b, o + j * 11, none⟩ = some (.int .i64 K) ∧ w'.cell? ⟨b, o + j * 11 + 1, none⟩ = some (.int .u32 I) ∧ w'.cell? ⟨b, o + j * 11 + 2, none⟩ = some (.bool X) ∧ w'.cell? ⟨b, o + j * 11 + 3, none⟩ = some (.bool R) ∧ w'.cell? ⟨b, o + j * 11 + 4, none⟩ = some (.bool B) ∧ w'.cell? ⟨b, o + j * 11 + 5, none⟩ = some (.bool E) ∧ w'.cell? ⟨b, o + j * 11 + 6, none⟩ = some (.bool S) ∧ w'.cell? ⟨b, o + j * 11 + 7, none⟩ = some (.int .u8 D) ∧ w'.cell? ⟨b, o + j * 11 + 8, none⟩ = some (.int .u8 V) ∧ w'.cell? ⟨b, o + j * 11 + 9, none⟩ = some (.int .u32 A) ∧ w'.cell? ⟨b, o + j * 11 + 10, none⟩ = some (.slice a' l.length c')) ∧ Bs w' a' c' l := by
  obtain ⟨b', o', e, hc⟩ := h.hcells (by omega)
  simp only [Option.some.injEq, Addr.mk.injEq, and_true] at e
  obtain ⟨rfl, rfl⟩ := e
  obtain ⟨a', c', h1, h2⟩ := hc j hj
  rw [hf] at h1 h2
  refine ⟨a', c', fun w' n => ?_⟩
  have g := fun i (hi : i < 11) => cell_nb hi (h1 i hi) n
  exact ⟨⟨g 0 (by omega), g 1 (by omega), g 2 (by omega), g 3 (by omega), g 4 (by omega), g 5 (by omega), g 6 (by omega), g 7 (by omega), g 8 (by omega), g 9 (by omega), g 10 (by omega)⟩, h2.below n⟩
theorem FrP.atD {w : World} {b o cap : Nat} {fs : List (Hd × List Nat)} {P : Nat → Prop} (h : FrP w (some ⟨b, o, none⟩) cap fs P) {j : Nat} (hj : j < fs.length) {K I : Int} {X R B E S : Bool} {D V A : Int} {l : List Nat} (hf : fs.getD j dF = (⟨K, I, X, R, B, E, S, D, V, A⟩, l)) :
    P b ∧ ∃ a' c', ∀ w', Nb w w' → (w'.cell? ⟨b, o + j * 11, none⟩ = some (.int .i64 K) ∧ w'.cell? ⟨b, o + j * 11 + 1, none⟩ = some (.int .u32 I) ∧ w'.cell? ⟨b, o + j * 11 + 2, none⟩ = some (.bool X) ∧ w'.cell? ⟨b, o + j * 11 + 3, none⟩ = some (.bool R) ∧ w'.cell? ⟨b, o + j * 11 + 4, none⟩ = some (.bool B) ∧ w'.cell? ⟨b, o + j * 11 + 5, none⟩ = some (.bool E) ∧ w'.cell? ⟨b, o + j * 11 + 6, none⟩ = some (.bool S) ∧ w'.cell? ⟨b, o + j * 11 + 7, none⟩ = some (.int .u8 D) ∧ w'.cell? ⟨b, o + j * 11 + 8, none⟩ = some (.int .u8 V) ∧ w'.cell? ⟨b, o + j * 11 + 9, none⟩ = some (.int .u32 A) ∧ w'.cell? ⟨b, o + j * 11 + 10, none⟩ = some (.slice a' l.length c')) ∧ DatP w' a' c' l P := by
  obtain ⟨b', o', e, hp, hc⟩ := h.hcells (by omega)
  simp only [Option.some.injEq, Addr.mk.injEq, and_true] at e
  obtain ⟨rfl, rfl⟩ := e
  obtain ⟨a', c', h1, h2⟩ := hc j hj
  rw [hf] at h1 h2
  refine ⟨hp, a', c', fun w' n => ?_⟩
  have g := fun i (hi : i < 11) => cell_nb hi (h1 i hi) n
  exact ⟨⟨g 0 (by omega), g 1 (by omega), g 2 (by omega), g 3 (by omega), g 4 (by omega), g 5 (by omega), g 6 (by omega), g 7 (by omega), g 8 (by omega), g 9 (by omega), g 10 (by omega)⟩, h2.nb n⟩
theorem getD_fst (L : List FrI) {j : Nat} (hj : j < L.length) : (L.map Prod.fst).getD j dF = (L.getD j dFI).1 := by simp [List.getD, hj]
theorem RowF.at {D : Option Addr → Nat → List Nat → Prop} {L : List FrI} (h : RowF D L) {j : Nat} (hj : j < L.length) : ∃ a c, (L.getD j dFI).2 = .slice a (L.getD j dFI).1.2.length c ∧ D a c (L.getD j dFI).1.2 :=
  h (L.getD j dFI) (by rw [show L.getD j dFI = L[j] by simp [List.getD, hj]]; exact List.getElem_mem hj)
/-- A row of the own call reads as its frames. -/
theorem OwnF.rd {w : World} {a : Option Addr} {n c : Nat} {L : List FrI} (h : OwnF w (.slice a n c) L) (hr : RowF (fun a c l => Bs w a c l) L) : n = L.length ∧ FrR w a c (L.map Prod.fst) := by
  obtain ⟨a', c', e, h1, h2, h3, _⟩ := h.shape
  simp only [Value.slice.injEq] at e
  obtain ⟨rfl, rfl, rfl⟩ := e
  refine ⟨rfl, by rw [List.length_map]; exact h2, h3, fun hl => ?_⟩
  rw [List.length_map] at hl
  obtain ⟨g, rfl⟩ := h1 hl
  refine ⟨g, 0, rfl, fun j hj => ?_⟩
  rw [List.length_map] at hj
  obtain ⟨a', c', e, hd⟩ := hr.at hj
  rw [getD_fst L hj]
  refine ⟨a', c', fun i hi => ?_, hd⟩
  rw [Nat.zero_add, h.cell hj hi, e]
theorem OwnF.frp2 {w : World} {a : Option Addr} {n c : Nat} {L : List FrI} {P : Nat → Prop} (h : OwnF w (.slice a n c) L) (hr : RowF (fun a c l => DatP w a c l P) L) : n = L.length ∧ FrP2 w a c (L.map Prod.fst) (fun k => Value.ownBlock (.slice a n c) = some k) P := by
  obtain ⟨a', c', e, h1, h2, h3, _⟩ := h.shape
  simp only [Value.slice.injEq] at e
  obtain ⟨rfl, rfl, rfl⟩ := e
  refine ⟨rfl, by rw [List.length_map]; exact h2, h3, fun hl => ?_⟩
  rw [List.length_map] at hl
  obtain ⟨g, rfl⟩ := h1 hl
  refine ⟨g, 0, rfl, rfl, fun j hj => ?_⟩
  rw [List.length_map] at hj
  obtain ⟨a', c', e, hd⟩ := hr.at hj
  rw [getD_fst L hj]
  refine ⟨a', c', fun i hi => ?_, hd⟩
  rw [Nat.zero_add, h.cell hj hi, e]
/-- Some more. -/
theorem wpList_appFs (w : World) {ops : Array Oper} {rest : List Oper} {o : Oper} {a : Act} {Q : Exit → Act → World → Prop}
    (hg : o.guard = none) (s x : Operand) (hop : o.op = Op.call { callee := Callee.builtin Builtin.append, args := #[s, x], argTypes := #[30, 30] })
    (v : Value) (L : List FrI) (hs : a.eval s = v) (hown : OwnF w v L)
    (ao : Option Addr) (m c : Nat) (M : List FrI) (hm : m = M.length) (hx : a.eval x = .slice ao m c) (hM : ∀ ad, ao = some ad → ∀ j u, (cellsF M)[j]? = some u → w.cell? (ad.add j) = some u) (h1 : ∀ u ∈ cellsF M, u.oneCell' = true) (hnone : ao = none → M.length = 0 ∧ c = 0) (b1 : (L.length + M.length) * 48 ≤ 140737488355328)
    (hK : ∀ v' w', OwnF w' v' (L ++ M) → Kp (fun k => v.ownBlock = some k) w w' → (∀ g, v'.ownBlock = some g → v.ownBlock = some g ∨ w.heap.size ≤ g) → wpList Tryd.prog ops Q rest (a.put o.dst v') w') :
    wpList Tryd.prog ops Q (o :: rest) a w := by
  obtain ⟨i0, hi, hz0, hz1, hz2⟩ := info_parts infoF
  subst hm
  refine wpList_app w hg s x 30 hop 36 i0 (.agg #[.int .i64 0, .int .u32 0, .bool false, .bool false, .bool false, .bool false, .bool false, .int .u8 0, .int .u8 0, .int .u32 0, .slice none 0 0]) 11 48 Tryd.underlying30 hi hz0 hz1 hz2 rfl (by decide) v L.length _ hs hown ao M.length c (cellsF M) hx (cellsF_len M) hnone hM h1 (by unfold maxLen; omega) b1 ?_
  intro v' w' ho hgr hbl
  refine hK v' w' ?_ (Kp.grown hgr (fun k hk => hk)) hbl
  unfold OwnF
  rw [List.length_append, cellsF_app]
  exact ho
/-- One more, that was just laid. -/
theorem wpList_appF (w : World) {ops : Array Oper} {rest : List Oper} {o : Oper} {a : Act} {Q : Exit → Act → World → Prop}
    (hg : o.guard = none) (s x : Operand) (hop : o.op = Op.call { callee := Callee.builtin Builtin.append, args := #[s, x], argTypes := #[30, 30] })
    (v : Value) (L : List FrI) (hs : a.eval s = v) (hown : OwnF w v L)
    (b : Nat) (f : Hd) (l : List Nat) (pa : Option Addr) (pc : Nat) (hx : a.eval x = .slice (some ⟨b, 0, none⟩) 1 1) (hM : ∀ i, i < 11 → w.cell? ⟨b, i, none⟩ = (csL f (.slice pa l.length pc))[i]?) (b1 : L.length + 1 ≤ 1000000)
    (hK : ∀ v' w', OwnF w' v' (L ++ [((f, l), .slice pa l.length pc)]) → Kp (fun k => v.ownBlock = some k) w w' → (∀ g, v'.ownBlock = some g → v.ownBlock = some g ∨ w.heap.size ≤ g) → wpList Tryd.prog ops Q rest (a.put o.dst v') w') :
    wpList Tryd.prog ops Q (o :: rest) a w := by
  refine wpList_appFs w hg s x hop v L hs hown (some ⟨b, 0, none⟩) 1 1 [((f, l), .slice pa l.length pc)] rfl hx ?_ (RowF.one' (D := fun _ _ _ => True) (RowF.one trivial)) (fun h => by cases h) (by rw [List.length_singleton]; omega) hK
  intro ad had j u hu
  obtain rfl := Option.some.inj had
  have hj : j < 11 := (List.getElem?_eq_some_iff.1 hu).1
  rw [Addr.add_lit, Nat.zero_add, hM j hj]
  exact hu
/-- A row of frames that were read, as cells. -/
theorem FrR.cells {w : World} {a : Option Addr} {c : Nat} {fs : List (Hd × List Nat)} (h : FrR w a c fs) : ∃ M : List FrI, M.map Prod.fst = fs ∧ RowF (fun a c l => Bs w a c l) M ∧ ∀ ad, a = some ad → ∀ j u, (cellsF M)[j]? = some u → w.cell? (ad.add j) = some u := by
  by_cases h0 : 0 < fs.length
  · obtain ⟨b, o, rfl, hc⟩ := h.hcells h0
    have hk : ∀ j, j < fs.length → ∃ v : Value, ∃ a' c', v = .slice a' (fs.getD j dF).2.length c' ∧ (∀ i, i < 11 → w.cell? ⟨b, o + j * 11 + i, none⟩ = (csL (fs.getD j dF).1 v)[i]?) ∧ Bs w a' c' (fs.getD j dF).2 := fun j hj => by
      obtain ⟨a', c', h1, h2⟩ := hc j hj
      exact ⟨_, a', c', rfl, h1, h2⟩
    haveI : Inhabited Value := ⟨.slice none 0 0⟩
    obtain ⟨g, hg⟩ := Go.Deep.choose_lt hk
    have hM : ∀ j, j < fs.length → ((List.range fs.length).map fun j => ((fs.getD j dF, g j) : FrI)).getD j dFI = (fs.getD j dF, g j) := fun j hj => by simp [List.getD, hj]
    refine ⟨(List.range fs.length).map fun j => (fs.getD j dF, g j), ?_, fun p hp => ?_, fun ad had j u hu => ?_⟩
    · apply List.ext_getElem?
      intro i
      by_cases hi : i < fs.length
      · simp [hi, List.getD]
      · simp [hi]
    · obtain ⟨j, hj, rfl⟩ := List.mem_map.1 hp
      obtain ⟨a', c', e, _, hb⟩ := hg j (by simpa using hj)
      exact ⟨a', c', e, hb⟩
    · obtain rfl := Option.some.inj had
      have hl : ((List.range fs.length).map fun j => ((fs.getD j dF, g j) : FrI)).length = fs.length := by simp
      have hj : j < fs.length * 11 := by
        have := (List.getElem?_eq_some_iff.1 hu).1
        rwa [cellsF_len, hl] at this
      have e2 : j = j / 11 * 11 + j % 11 := by omega
      rw [e2, cellsF_get _ (j / 11) (by rw [hl]; omega) (j % 11) (by omega), hM (j / 11) (by omega)] at hu
      obtain ⟨_, _, _, hcl, _⟩ := hg (j / 11) (by omega)
      rw [Addr.add_lit, show o + j = o + j / 11 * 11 + j % 11 by omega, hcl (j % 11) (by omega)]
      exact hu
  · have : fs = [] := List.length_eq_zero_iff.1 (by omega)
    subst this
    exact ⟨[], rfl, RowF.nil _, fun ad _ j u hu => by simp [cellsF] at hu⟩
end Go.Proofs.YtlmbggmamemmjaaDoor
