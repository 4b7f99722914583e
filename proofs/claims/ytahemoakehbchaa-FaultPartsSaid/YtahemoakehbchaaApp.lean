
/- What an append onto a slice of bytes of the own call answers, and which block the answer lies in. Conditions: sizes below 2 to the 47. -/
import Derived.Test.YtahemoakehbchaaVoc
/-
  'append' onto a slice that the call itself made, with the word on which block the answer lies in: the old one, or a new one.
-/
namespace Go.Proofs.Ytahemoakehbchaa
set_option linter.unusedVariables false
set_option linter.unusedSimpArgs false
open Go.RowKit

theorem ownsRow_weak {w : World} {B : Nat} {e : TypeId} {size : Nat} {v : Value} {n : Nat} {xs : List Value} (h : w.ownsRow B e size v n xs) : w.ownsRow 0 e size v n xs := by
  obtain ⟨h1, h2⟩ := h
  refine ⟨h1, ?_⟩
  rcases h2 with h2 | ⟨g, cap, cur, hv, _, r⟩
  · exact .inl h2
  · exact .inr ⟨g, cap, cur, hv, Nat.zero_le _, r⟩

theorem wpList_app {P : Program} (w : World) {ops : Array Oper} {rest : List Oper} {o : Oper} {a : Act} {Q : Exit → Act → World → Prop}
    (hg : o.guard = none) (s x : Operand) (t : TypeId) (hop : o.op = Op.call { callee := Callee.builtin Builtin.append, args := #[s, x], argTypes := #[t, t] })
    (e : TypeId) (i : TypeInfo) (z : Value) (size bytes : Nat) (h1 : P.underlying t = some (.slice e)) (h2 : P.info? e = some i) (h3 : i.zero = some z) (h4 : i.size = size) (h5 : i.bytes = bytes) (h6 : z.cells.size = size) (h7 : 0 < size)
    (v : Value) (n : Nat) (xs : List Value) (hs : a.eval s = v) (hown : w.ownsRow 0 e size v n xs)
    (ao : Option Addr) (m c : Nat) (news : List Value) (hx : a.eval x = .slice ao m c) (hn : news.length = m * size) (hnone : ao = none → m = 0 ∧ c = 0)
    (hc : ∀ ad, ao = some ad → ∀ j u, news[j]? = some u → w.cell? (ad.add j) = some u) (h1c : ∀ u ∈ news, u.oneCell' = true)
    (b1 : n + m ≤ maxLen) (b2 : (n + m) * bytes ≤ 140737488355328)
    (hK : ∀ v' w', w'.ownsRow 0 e size v' (n + m) (xs ++ news) → w.grownBy w' v.ownBlock → (∀ g, v'.ownBlock = some g → v.ownBlock = some g ∨ w.heap.size ≤ g) → wpList P ops Q rest (a.put o.dst v') w') :
    wpList P ops Q (o :: rest) a w := by
  have hnew : ∀ v' w', w'.ownsRow w.heap.size e size v' (n + m) (xs ++ news) → w.grownBy w' none → wpList P ops Q rest (a.put o.dst v') w' := fun v' w' ho hgr =>
    hK v' w' (ownsRow_weak ho) ⟨hgr.os, hgr.tape, hgr.output, hgr.size, fun k hk _ => hgr.block k hk (by simp)⟩ (fun g hg => .inr (ho.lt g hg).1)
  rcases hown.2 with ⟨rfl, rfl⟩ | ⟨g, cap, cur, rfl, hbg, hgg, hnc, hcm, hcs, htake⟩
  · by_cases hm : m = 0
    · subst hm
      have hnews : news = [] := List.eq_nil_of_length_eq_zero (by simpa using hn)
      subst hnews
      cases ao with
      | none =>
        obtain ⟨_, rfl⟩ := hnone rfl
        refine wpList_plain hg fun K hK' => ?_
        have hrun := run_append_owned_none (P := P) w 0 t o.type e i size h1 h2 _ 0 xs hown
        unfold Oper.wp
        simp [execOp, hop, resolve, invoke, builtin, hs, hx, hrun, Result.andThen]
        exact hK' _ _ (by simpa using hK (.slice none 0 0) w (by simpa using hown) (World.grownBy.refl _ _) (by simp [Value.ownBlock]))
      | some ad =>
        refine wpList_append_own w hg s x t hop 0 e i z size bytes h1 h2 h3 h4 h5 h6 h7 _ 0 xs hs hown ad 0 c [] hx (by simp) (by simp) (by simp) b1 b2 (Nat.zero_le _) fun v' w' ho hgr hv => ?_
        refine hK v' w' ho hgr ?_
        obtain rfl := hv.2 ⟨rfl, rfl⟩
        simp [Value.ownBlock]
    · cases ao with
      | none => exact absurd (hnone rfl).1 hm
      | some ad =>
        have hxs : xs = [] := List.eq_nil_of_length_eq_zero (by simpa using hown.1)
        subst hxs
        exact wpList_append_grows w hg s x t hop e i z size bytes h1 h2 h3 h4 h5 h6 h7 none 0 0 [] hs (fun _ => ⟨rfl, rfl⟩) (by simp) (by simp) ad m c news hx hn (hc ad rfl) h1c (by omega) b1 b2 hnew
  · by_cases hroom : n + m ≤ cap
    · exact wpList_append_fits_any w hg s x t hop 0 e i size h1 h2 h4 g n cap xs hs hown ao m c news hx hn hnone hc h1c hroom fun w' ho hgr => hK _ w' ho hgr (fun k hk => .inl (by simpa [Value.ownBlock] using hk))
    · cases ao with
      | none =>
        have := (hnone rfl).1
        omega
      | some ad =>
        exact wpList_append_grows w hg s x t hop e i z size bytes h1 h2 h3 h4 h5 h6 h7 (some ⟨g, 0, none⟩) n cap xs hs (by simp) hown.1 (fun b hb => by cases hb; exact hown.cells (g := g) rfl) ad m c news hx hn (hc ad rfl) h1c (by omega) b1 b2 hnew

/-- A slice of bytes that owns something is a block's head. -/
theorem OwnB.shape {w : World} {v : Value} {l : List Nat} (h : OwnB w v l) (hl : 0 < l.length) : ∃ g cap, v = .slice (some ⟨g, 0, none⟩) l.length cap := by
  rcases h.1.2 with ⟨_, h2⟩ | ⟨g, cap, cur, hv, _⟩
  · omega
  · exact ⟨g, cap, hv⟩

/-- One byte that has just been laid into a block of its own reads as a slice of one byte. -/
theorem Bs.one (w : World) (x : Nat) (hx : x < 256) (t : TypeId) : Bs (w.alloc (.cells #[.int .u8 (x : Int)] t)) (some ⟨w.heap.size, 0, none⟩) 1 [x] :=
  ⟨Nat.le_refl _, by simp [maxLen], by simpa using hx, fun _ => ⟨_, _, rfl, fun j hj => by
    have : j = 0 := by simpa using hj
    subst this
    simp⟩⟩
end Go.Proofs.Ytahemoakehbchaa
