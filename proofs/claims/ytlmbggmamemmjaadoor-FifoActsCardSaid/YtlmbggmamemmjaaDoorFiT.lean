
/- Two rows of frames that grow beside a fifo (FifoTurns). No conditions. -/
import Derived.Test.YtlmbggmamemmjaaDoorFiO
namespace Go.Proofs.YtlmbggmamemmjaaDoor
set_option linter.unusedVariables false
set_option linter.unusedSimpArgs false
open Go.RowKit

/-- What two rows hold on to. -/
def TwoS (mv ov : Value) (P : Nat → Prop) : Nat → Prop := fun k => mv.ownBlock = some k ∨ ov.ownBlock = some k ∨ P k
/-- A row of frames that came in, one of frames of the own call, apart from each other. -/
structure TwoR (w wr : World) (mv ov : Value) (M O : List FrI) (P : Nat → Prop) : Prop where
  mo : OwnF wr mv M
  mr : RowF (fun a c l => Bs w a c l) M
  mg : ∀ g, mv.ownBlock = some g → w.heap.size ≤ g ∧ ¬ P g
  oo : OwnF wr ov O
  or : RowF (fun a c l => DatP wr a c l P) O
  og : ∀ g, ov.ownBlock = some g → w.heap.size ≤ g ∧ mv.ownBlock ≠ some g ∧ ¬ P g
  pw : ∀ k, P k → w.heap.size ≤ k ∧ k < wr.heap.size
theorem TwoR.new (w wr : World) : TwoR w wr (.slice none 0 0) (.slice none 0 0) [] [] (fun _ => False) :=
  ⟨OwnF.nil _, RowF.nil _, by simp [Value.ownBlock], OwnF.nil _, RowF.nil _, by simp [Value.ownBlock], fun _ h => h.elim⟩
theorem TwoR.keep {G : Nat → Prop} {w wr w2 : World} {mv ov : Value} {M O : List FrI} {P : Nat → Prop} (h : TwoR w wr mv ov M O P) (hk : Kp G wr w2) (hG : ∀ k, TwoS mv ov P k → ¬ G k) : TwoR w w2 mv ov M O P :=
  ⟨h.mo.keep hk (fun g hg => hG g (.inl hg)), h.mr, h.mg, h.oo.keep hk (fun g hg => hG g (.inr (.inl hg))), h.or.imp (fun _ _ _ d => d.keep hk (fun k hk => hG k (.inr (.inr hk)))), h.og, fun k hk' => ⟨(h.pw k hk').1, Nat.lt_of_lt_of_le (h.pw k hk').2 hk.size⟩⟩
theorem TwoR.nb {w wr w2 : World} {mv ov : Value} {M O : List FrI} {P : Nat → Prop} (h : TwoR w wr mv ov M O P) (hb : Nb wr w2) : TwoR w w2 mv ov M O P := h.keep (G := fun _ => False) (Kp.ofNb hb) (by simp)
theorem TwoR.lt {w wr : World} {mv ov : Value} {M O : List FrI} {P : Nat → Prop} (h : TwoR w wr mv ov M O P) : ∀ k, TwoS mv ov P k → w.heap.size ≤ k ∧ k < wr.heap.size := fun k hk => by
  rcases hk with hk | hk | hk
  · exact ⟨(h.mg k hk).1, h.mo.lt hk⟩
  · exact ⟨(h.og k hk).1, h.oo.lt hk⟩
  · exact h.pw k hk
/-- One more came in. -/
theorem TwoR.appM {w wr w2 : World} {mv mv' ov : Value} {M N O : List FrI} {P : Nat → Prop} (h : TwoR w wr mv ov M O P) (hw : w.heap.size ≤ wr.heap.size) (ho : OwnF w2 mv' (M ++ N)) (hk : Kp (fun k => mv.ownBlock = some k) wr w2) (hf : ∀ g, mv'.ownBlock = some g → mv.ownBlock = some g ∨ wr.heap.size ≤ g) (hN : RowF (fun a c l => Bs w a c l) N) : TwoR w w2 mv' ov (M ++ N) O P := by
  refine ⟨ho, h.mr.app hN, fun g hg => ?_, h.oo.keep hk (fun g hg hq => (h.og g hg).2.1 hq), h.or.imp (fun _ _ _ d => d.keep hk (fun k hp hq => (h.mg k hq).2 hp)), fun g hg => ⟨(h.og g hg).1, fun q => ?_, (h.og g hg).2.2⟩, fun k hk' => ⟨(h.pw k hk').1, Nat.lt_of_lt_of_le (h.pw k hk').2 hk.size⟩⟩
  · rcases hf g hg with q | q
    · exact h.mg g q
    · exact ⟨by omega, fun hp => by have := (h.pw g hp).2; omega⟩
  · rcases hf g q with r | r
    · exact (h.og g hg).2.1 r
    · have := h.oo.lt hg
      omega
/-- Some more of the own call. -/
theorem TwoR.appO {w wr w2 : World} {mv ov ov' : Value} {M N O : List FrI} {P Q : Nat → Prop} (h : TwoR w wr mv ov M O P) (hw : w.heap.size ≤ wr.heap.size) (ho : OwnF w2 ov' (O ++ N)) (hk : Kp (fun k => ov.ownBlock = some k) wr w2) (hf : ∀ g, ov'.ownBlock = some g → ov.ownBlock = some g ∨ wr.heap.size ≤ g) (hN : RowF (fun a c l => DatP wr a c l Q) N) (hQ : ∀ k, Q k → w.heap.size ≤ k ∧ k < wr.heap.size ∧ mv.ownBlock ≠ some k ∧ ov.ownBlock ≠ some k) : TwoR w w2 mv ov' M (O ++ N) (fun k => P k ∨ Q k) := by
  refine ⟨h.mo.keep hk (fun g hg hq => (h.og g hq).2.1 hg), h.mr, fun g hg => ⟨(h.mg g hg).1, fun q => ?_⟩, ho, (h.or.imp (fun _ _ _ d => (d.keep hk (fun k hp hq => (h.og k hq).2.2 hp)).up (fun k hk => Or.inl hk))).app (hN.imp (fun _ _ _ d => (d.keep hk (fun k hp hq => (hQ k hp).2.2.2 hq)).up (fun k hk => Or.inr hk))), fun g hg => ?_, fun k hk' => ?_⟩
  · rcases q with q | q
    · exact (h.mg g hg).2 q
    · exact (hQ g q).2.2.1 hg
  · rcases hf g hg with q | q
    · exact ⟨(h.og g q).1, (h.og g q).2.1, fun r => by
        rcases r with r | r
        · exact (h.og g q).2.2 r
        · exact (hQ g r).2.2.2 q⟩
    · exact ⟨by omega, fun r => by have := h.mo.lt r; omega, fun r => by
        rcases r with r | r
        · have := (h.pw g r).2
          omega
        · have := (hQ g r).2.1
          omega⟩
  · have hs := hk.size
    rcases hk' with r | r
    · have := h.pw k r
      omega
    · have := hQ k r
      omega
/-- What was one in, one out. -/
structure StT (n : Nat) (M O : List (Hd × List Nat)) (q : Fi) : Prop where
  room : q.room = n + 1
  over : q.over = 0
  its : q.its.length ≤ n
  all : O ++ q.its = M
theorem StT.pushB {n : Nat} {M O : List (Hd × List Nat)} {q : Fi} (h : StT n M O q) {f : Hd} {l : List Nat} (hok : okF f l = true) : q.pushB f l = true ∧ q.push f l = ⟨n + 1, 0, q.its ++ [(f, l)]⟩ := by
  have h1 := h.its
  have h2 := h.room
  have h3 := h.over
  have hlt : q.its.length < q.room := by omega
  constructor
  · simp [Fi.pushB, hok, hlt]
  · unfold Fi.push
    rw [if_pos hok, if_pos hlt, h2, h3]
theorem StT.stay {n : Nat} {M O : List (Hd × List Nat)} {q : Fi} (h : StT n M O q) (x : Hd × List Nat) (hl : q.its.length < n) : StT n (M ++ [x]) O ⟨n + 1, 0, q.its ++ [x]⟩ :=
  ⟨rfl, rfl, by show (q.its ++ [x]).length ≤ n; rw [List.length_append, List.length_singleton]; omega, by show O ++ (q.its ++ [x]) = _; rw [← List.append_assoc, h.all]⟩
theorem StT.go {n : Nat} {M O : List (Hd × List Nat)} {q : Fi} (h : StT n M O q) (x : Hd × List Nat) (hl : q.its.length = n) : StT n (M ++ [x]) (O ++ [(⟨n + 1, 0, q.its ++ [x]⟩ : Fi).head]) (⟨n + 1, 0, q.its ++ [x]⟩ : Fi).pop ∧ (⟨n + 1, 0, q.its ++ [x]⟩ : Fi).popE = 0 := by
  have hne : q.its ++ [x] ≠ [] := by simp
  obtain ⟨y, ys, hy⟩ := List.exists_cons_of_ne_nil hne
  have hlen : (q.its ++ [x]).length = n + 1 := by rw [List.length_append, List.length_singleton, hl]
  refine ⟨⟨rfl, rfl, ?_, ?_⟩, ?_⟩
  · show (q.its ++ [x]).tail.length ≤ n
    rw [List.length_tail, hlen]
    omega
  · show (O ++ [(q.its ++ [x]).getD 0 dF]) ++ (q.its ++ [x]).tail = _
    rw [hy, List.append_assoc]
    show O ++ (y :: ys) = _
    rw [← hy, ← List.append_assoc, h.all]
  · show (if (q.its ++ [x]).length = 0 then 9 else 0) = 0
    rw [hlen, if_neg (by omega)]
/-- A row of frames that were read, as cells, with what its bytes lie in. -/
theorem FrP.cells {w : World} {a : Option Addr} {c : Nat} {fs : List (Hd × List Nat)} {P : Nat → Prop} (h : FrP w a c fs P) : ∃ M : List FrI, M.map Prod.fst = fs ∧ RowF (fun a c l => DatP w a c l P) M ∧ (∀ ad, a = some ad → ∀ j u, (cellsF M)[j]? = some u → w.cell? (ad.add j) = some u) ∧ (a = none → M.length = 0) := by
  by_cases h0 : 0 < fs.length
  · obtain ⟨b, o, rfl, _, hc⟩ := h.hcells h0
    have hk : ∀ j, j < fs.length → ∃ v : Value, ∃ a' c', v = .slice a' (fs.getD j dF).2.length c' ∧ (∀ i, i < 11 → w.cell? ⟨b, o + j * 11 + i, none⟩ = (csL (fs.getD j dF).1 v)[i]?) ∧ DatP w a' c' (fs.getD j dF).2 P := fun j hj => by
      obtain ⟨a', c', h1, h2⟩ := hc j hj
      exact ⟨_, a', c', rfl, h1, h2⟩
    haveI : Inhabited Value := ⟨.slice none 0 0⟩
    obtain ⟨g, hg⟩ := Go.Deep.choose_lt hk
    have hM : ∀ j, j < fs.length → ((List.range fs.length).map fun j => ((fs.getD j dF, g j) : FrI)).getD j dFI = (fs.getD j dF, g j) := fun j hj => by simp [List.getD, hj]
    refine ⟨(List.range fs.length).map fun j => (fs.getD j dF, g j), ?_, fun p hp => ?_, fun ad had j u hu => ?_, fun h => by cases h⟩
    · apply List.ext_getElem?
      intro i
      by_cases hi : i < fs.length
      · simp [hi, List.getD]
      · simp [hi]
    · obtain ⟨j, hj, rfl⟩ := List.mem_map.1 hp
      obtain ⟨a', c', e, _, hb⟩ := hg j (by simpa using hj)
      exact ⟨a', c', e, hb⟩
    · obtain rfl := Option.some.inj had
      have hl : ((List.range fs.length).map fun j => ((fs.getD j dF, g j) : FrI)).length = fs.length := by simp
      have hj : j < fs.length * 11 := by
        have := (List.getElem?_eq_some_iff.1 hu).1
        rwa [cellsF_len, hl] at this
      have e2 : j = j / 11 * 11 + j % 11 := by omega
      rw [e2, cellsF_get _ (j / 11) (by rw [hl]; omega) (j % 11) (by omega), hM (j / 11) (by omega)] at hu
      obtain ⟨_, _, _, hcl, _⟩ := hg (j / 11) (by omega)
      rw [Addr.add_lit, show o + j = o + j / 11 * 11 + j % 11 by omega, hcl (j % 11) (by omega)]
      exact hu
  · have : fs = [] := List.length_eq_zero_iff.1 (by omega)
    subst this
    exact ⟨[], rfl, RowF.nil _, fun ad _ j u hu => by simp [cellsF] at hu, fun _ => rfl⟩
end Go.Proofs.YtlmbggmamemmjaaDoor
