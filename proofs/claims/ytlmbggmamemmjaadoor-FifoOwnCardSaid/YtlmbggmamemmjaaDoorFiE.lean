
/- The program's fifo: Pop, All and Clear. No conditions. -/
import Derived.Test.YtlmbggmamemmjaaDoorFiD
namespace Go.Proofs.YtlmbggmamemmjaaDoor
set_option linter.unusedVariables false
set_option linter.unusedSimpArgs false
open Go.RowKit

theorem Fi.pop_nil {q : Fi} (h : q.its.length = 0) : q.pop = q ∧ q.head = dF ∧ q.popE = 9 := by
  obtain ⟨r, o, its⟩ := q
  obtain rfl : its = [] := List.length_eq_zero_iff.1 h
  exact ⟨rfl, rfl, rfl⟩

set_option maxHeartbeats 3200000 in
set_option maxRecDepth 100000 in
theorem popF_any (v : Value) (q : Fi) (F : Nat → Prop) (w : World) (h : FiAt w v q F) :
    Calls Tryd.prog 12 #[v] w fun e w' => ∃ a c P, e = .returned (.tuple #[.agg (q.head.1.cs (.slice a q.head.2.length c)), .int .i64 (q.popE : Nat)]) ∧ DatP w' a c q.head.2 P ∧ (∀ k, P k → w.heap.size ≤ k ∧ k < w'.heap.size) ∧ FiAt w' v q.pop F ∧ Kp F w w' := by
  obtain ⟨R, first, D, rfl, m, hF⟩ := h
  have M := Lib.hid m
  have HF := Lib.hid hF
  have hRl : R < w.heap.size := by
    obtain ⟨cs, hb, _⟩ := m.blk
    exact hb.lt
  have BZ := Lib.hid (Blk.new w #[.int .i64 0, .int .u32 0, .bool false, .bool false, .bool false, .bool false, .bool false, .int .u8 0, .int .u8 0, .int .u32 0, .slice none 0 0] 36)
  by_cases h0 : q.its.length = 0
  · obtain ⟨e1, e2, e3⟩ := Fi.pop_nil h0
    rw [e1, e2, e3]
    obtain ⟨cs, hb, hc⟩ := m.blk
    have m1 := (hb.cell 707).trans hc.c3
    rw [h0] at m1
    clear hb hc m hF e1 e2 e3 h0
    go_enter Tryd.func12, Tryd.ntmps12
    go_wp2
    exact bodyPost_ret (v := .tuple #[.agg (dF.1.cs (.slice none 0 0)), .int .i64 9]) (by simp [results, Tryd.results12, go_sem, Hd.cs]) rfl ⟨none, 0, fun _ => False, rfl, ⟨Bs.nil _, fun b o t e => by cases e⟩, fun k hk => hk.elim, ⟨R, first, D, rfl, M.out.nb (Nb.rfl.al _), HF.out⟩, Kp.ofNb (Nb.rfl.al _)⟩
  · have hpe : q.popE = 0 := by simp [Fi.popE, h0]
    rw [hpe]
    have hlen : q.head.2.length ≤ 2048 := m.ok.at 0
    have d1 : ((q.its.length : Int) == 0) = false := by rw [beq_eq_false_iff_ne]; omega
    have H0 := Lib.hid (show 0 < q.its.length by omega)
    have HL := Lib.hid hlen
    obtain ⟨cs, hb, hc⟩ := m.blk
    have m1 := (hb.cell 707).trans hc.c3
    obtain ⟨⟨⟨K, I, X, P, B, E, S, V1, V, A⟩, l⟩, hh⟩ : ∃ x, q.head = x := ⟨_, rfl⟩
    have TK := Lib.hid (fun w' (n : Nb w w') => takeM_any (m.nb n) H0.out)
    rw [hh] at TK HL ⊢
    simp only [Hd.cs] at TK ⊢
    clear hb hc m hF hpe hlen h0 hh
    go_enter Tryd.func12, Tryd.ntmps12
    go_wp2_with fail
    refine (TK.out _ (Nb.rfl.al _)).mono ?_
    rintro e w1 ⟨a1, c1, rfl, d1, m1, k1⟩
    have D1 := Lib.hid d1
    have M1 := Lib.hid m1
    have K1 := Lib.hid k1
    have B1 := Lib.hid (BZ.out.keep k1 (show ¬ w.heap.size = R by omega))
    clear d1 m1 k1
    go_wp2_with fail
    refine (copy_all ⟨K, I, X, P, B, E, S, V1, V, A⟩ a1 c1 l _ D1.out.1 (by have := HL.out; omega)).mono ?_
    rintro e w2 ⟨⟨a2, c2, rfl, f2⟩, n2⟩
    obtain ⟨y0, y1, y2, y3, y4, y5, y6, y7, y8, y9, y10⟩ := (B1.out.nb n2).c11
    obtain ⟨x0, x1, x2, x3, x4, x5, x6, x7, x8, x9, x10⟩ := (B1.out.nb n2).f11
    have F2 := Lib.hid f2
    have N2 := Lib.hid n2
    have B2 := Lib.hid (put11_blk (v0 := .int .i64 K) (v1 := .int .u32 I) (v2 := .bool X) (v3 := .bool P) (v4 := .bool B) (v5 := .bool E) (v6 := .bool S) (v7 := .int .u8 V1) (v8 := .int .u8 V) (v9 := .int .u32 A) (v10 := .slice a2 l.length c2) (B1.out.nb n2))
    have K2 := Lib.hid (put11_kp w2 w.heap.size (.int .i64 K) (.int .u32 I) (.bool X) (.bool P) (.bool B) (.bool E) (.bool S) (.int .u8 V1) (.int .u8 V) (.int .u32 A) (.slice a2 l.length c2))
    clear f2 n2 B1 TK
    simp only [Hd.cs]
    go_wp2
    change bodyPost _ _ _ _ _ (put11 w2 w.heap.size (.int .i64 K) (.int .u32 I) (.bool X) (.bool P) (.bool B) (.bool E) (.bool S) (.int .u8 V1) (.int .u8 V) (.int .u32 A) (.slice a2 l.length c2))
    clear y0 y1 y2 y3 y4 y5 y6 y7 y8 y9 y10 x0 x1 x2 x3 x4 x5 x6 x7 x8 x9 x10
    generalize put11 w2 w.heap.size (.int .i64 K) (.int .u32 I) (.bool X) (.bool P) (.bool B) (.bool E) (.bool S) (.int .u8 V1) (.int .u8 V) (.int .u32 A) (.slice a2 l.length c2) = W at *
    obtain ⟨e0, e1, e2, e3, e4, e5, e6, e7, e8, e9, e10⟩ := B2.out.c11
    have hs1 := K1.out.size
    rw [World.size_alloc] at hs1
    have hs2 := N2.out.size
    have hg : ∀ k, Value.ownBlock (.slice a2 l.length c2) = some k → w1.heap.size ≤ k := F2.out.2
    have ap := M1.out.ap
    have hR1 : R < w1.heap.size := by omega
    have DD := OwnB.dat (X := fun k => Value.ownBlock (.slice a2 l.length c2) = some k) (F2.out.1.keep K2.out (fun g hg' h => by have := hg g hg'; omega)) (fun g hg => hg)
    have KA : Kp (fun k => k = R) w W := ((((Kp.ofNb (F := fun k => k = R) (Nb.rfl.al _)).tr K1.out (fun k h => .inl h)).tr (Kp.ofNb (F := fun _ => False) N2.out) (fun _ h => h.elim)).tr K2.out (fun k h => .inr (by omega)))
    have DM : ∀ k, D k → ¬ k = w.heap.size := fun k hk => by have := (M.out.ap k hk).2; omega
    exact bodyPost_ret (v := .tuple #[.agg #[.int .i64 K, .int .u32 I, .bool X, .bool P, .bool B, .bool E, .bool S, .int .u8 V1, .int .u8 V, .int .u32 A, .slice a2 l.length c2], .int .i64 0]) (by simp [results, Tryd.results12, go_sem, e0, e1, e2, e3, e4, e5, e6, e7, e8, e9, e10]) rfl ⟨a2, c2, _, rfl, DD, fun k hk => ⟨by have := hg k hk; omega, by have := F2.out.1.lt hk; have := K2.out.size; omega⟩, ⟨R, (first + 1) % 64, D, rfl, (M1.out.nb N2.out).keep K2.out (by omega) DM, HF.out⟩, KA.mono (fun k _ h => (HF.out k).2 (.inl h))⟩
end Go.Proofs.YtlmbggmamemmjaaDoor
