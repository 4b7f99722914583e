
/- The program's fifo: Push and Pop. Conditions: the table of longer sizes holds what the program's text lays there; at most a million that found no place. -/
import Derived.Test.YtlmbggmamemmjaaDoorFiC
namespace Go.Proofs.YtlmbggmamemmjaaDoor
set_option linter.unusedVariables false
set_option linter.unusedSimpArgs false
open Go.RowKit

set_option maxHeartbeats 3200000 in
set_option maxRecDepth 100000 in
theorem pushF_any (v : Value) (q : Fi) (F : Nat → Prop) (f : Hd) (a : Option Addr) (cap : Nat) (l : List Nat) (w : World) (h : FiAt w v q F) (hB : Longer w) (hbs : Bs w a cap l) (hov : q.over ≤ 1000000) :
    Calls Tryd.prog 17 #[v, .agg (f.cs (.slice a l.length cap))] w (TurnF w v (q.push f l) (.tuple #[.bool (q.pushB f l), .int .i64 (checkN f l : Nat)]) F) := by
  obtain ⟨R, first, D, rfl, m, hF⟩ := h
  obtain ⟨K, I, X, P, B, E, S, V1, V, A⟩ := f
  have hRl : R < w.heap.size := by
    obtain ⟨cs, hb, _⟩ := m.blk
    exact hb.lt
  have CK := Lib.hid (fun w' (n : Nb w w') => check5_any ⟨K, I, X, P, B, E, S, V1, V, A⟩ a cap l w' (hbs.below n) (hB.below n))
  have M := Lib.hid m
  have HF := Lib.hid hF
  have BS := Lib.hid hbs
  have BF := Lib.hid (Blk.new w #[.int .i64 K, .int .u32 I, .bool X, .bool P, .bool B, .bool E, .bool S, .int .u8 V1, .int .u8 V, .int .u32 A, .slice a l.length cap] 36)
  simp only [Hd.cs] at CK ⊢
  cases hok : okF ⟨K, I, X, P, B, E, S, V1, V, A⟩ l with
  | false =>
    rw [show checkN ⟨K, I, X, P, B, E, S, V1, V, A⟩ l = 2 by simp [checkN, hok]] at CK ⊢
    rw [show q.push ⟨K, I, X, P, B, E, S, V1, V, A⟩ l = q by simp [Fi.push, hok], show q.pushB ⟨K, I, X, P, B, E, S, V1, V, A⟩ l = false by simp [Fi.pushB, hok]]
    clear m hF hbs hok hB
    go_enter Tryd.func17, Tryd.ntmps17
    go_wp2_with fail
    refine (CK.out _ (Nb.rfl.al _)).mono ?_
    rintro e w1 ⟨rfl, n1⟩
    have N1 := Lib.hid ((Nb.rfl.al _).tr n1)
    go_wp2
    go_ret2
    exact ⟨F, rfl, ⟨R, first, D, rfl, M.out.nb N1.out, HF.out⟩, Kp.ofNb N1.out, fun k hk => .inl hk⟩
  | true =>
    rw [show checkN ⟨K, I, X, P, B, E, S, V1, V, A⟩ l = 0 by simp [checkN, hok]] at CK ⊢
    have hl2 := okF_le hok
    by_cases hlt : q.its.length < q.room
    · rw [show q.push ⟨K, I, X, P, B, E, S, V1, V, A⟩ l = ⟨q.room, q.over, q.its ++ [(⟨K, I, X, P, B, E, S, V1, V, A⟩, l)]⟩ by simp [Fi.push, hok, hlt], show q.pushB ⟨K, I, X, P, B, E, S, V1, V, A⟩ l = true by simp [Fi.pushB, hok, hlt]]
      have d1 : decide ((q.room : Int) ≤ (q.its.length : Int)) = false := decide_eq_false (by omega)
      have d2 : decide (q.room ≤ q.its.length) = false := decide_eq_false (by omega)
      have HLT := Lib.hid hlt
      have HL2 := Lib.hid hl2
      clear m hF hbs hok hB hlt hl2 hov
      go_enter Tryd.func17, Tryd.ntmps17
      go_wp2_with fail
      refine (CK.out _ (Nb.rfl.al _)).mono ?_
      rintro e w1 ⟨rfl, n1⟩
      have N1 := Lib.hid n1
      obtain ⟨cs, hb, hc⟩ := (M.out.nb ((Nb.rfl.al _).tr n1)).blk
      have m0 := (hb.cell 0).trans hc.c0
      have m1 := (hb.cell 707).trans hc.c3
      clear n1 hb hc
      go_wp2_with fail
      go_quiet (fail)
      rename_i nq
      have ND := Lib.hid (N1.out.tr (Nb.drewN w1 nq))
      clear m0 m1 N1
      generalize w1.drewN nq = wd at *
      have NW := Lib.hid ((Nb.rfl.al _).tr ND.out)
      obtain ⟨c0, c1, c2, c3, c4, c5, c6, c7, c8, c9, c10⟩ := (BF.out.nb ND.out).c11
      go_wp2_with fail
      go_region_with (first
        | (go_at_call 24; refine (copy_all ⟨K, I, X, P, B, E, S, V1, V, A⟩ a cap l _ (BS.out.below (NW.out.tr (Nb.drewN _ 1))) (by have := HL2.out; omega)).mono ?_; rintro e w2 ⟨⟨a2, k2, rfl, f2⟩, n2⟩; have F2 := Lib.hid f2; have N2 := Lib.hid ((NW.out.tr (Nb.drewN _ 1)).tr n2); have S2 := Lib.hid (fun k (hk : Value.ownBlock (.slice a2 l.length k2) = some k) => Nat.le_trans (NW.out.tr (Nb.drewN _ 1)).size (f2.2 k hk)); clear f2 n2)
        | (go_at_call 27; refine (putM_any (M.out.nb N2.out) HLT.out ⟨K, I, X, P, B, E, S, V1, V, A⟩ l a2 k2 (OwnB.dat F2.out.1 (fun g hg => hg)) (fun k hk => ⟨by have := S2.out k hk; omega, F2.out.1.lt hk⟩) HL2.out).mono ?_; rintro e w3 ⟨rfl, m3, k3⟩; have M3 := Lib.hid m3; have K3 := Lib.hid k3; clear m3 k3))
      all_goals go_wp2
      all_goals go_ret2
      all_goals exact ⟨fun k => k = R ∨ (D k ∨ Value.ownBlock (.slice a2 l.length k2) = some k), rfl, ⟨R, first, _, rfl, M3.out, fun k => Iff.rfl⟩, (Kp.ofNb N2.out).tr K3.out (fun k hk => .inl ((HF.out k).2 (.inl hk))), fun k hk => by
        rcases hk with h | h | h
        · exact .inl ((HF.out k).2 (.inl h))
        · exact .inl ((HF.out k).2 (.inr h))
        · exact .inr (S2.out k h)⟩
    · rw [show q.push ⟨K, I, X, P, B, E, S, V1, V, A⟩ l = ⟨q.room, q.over + 1, q.its⟩ by simp [Fi.push, hok, hlt], show q.pushB ⟨K, I, X, P, B, E, S, V1, V, A⟩ l = false by simp [Fi.pushB, hlt]]
      have d1 : decide ((q.room : Int) ≤ (q.its.length : Int)) = true := decide_eq_true (by omega)
      have d2 : decide (q.room ≤ q.its.length) = true := decide_eq_true (by omega)
      have d3 : (q.over : Int) + 1 < 9223372036854775808 := by omega
      have d4 : (0 : Int) ≤ (q.over : Int) := by omega
      clear m hF hbs hok hB hlt hl2
      go_enter Tryd.func17, Tryd.ntmps17
      go_wp2_with fail
      refine (CK.out _ (Nb.rfl.al _)).mono ?_
      rintro e w1 ⟨rfl, n1⟩
      have N1 := Lib.hid ((Nb.rfl.al _).tr n1)
      obtain ⟨cs, hb, hc⟩ := (M.out.nb N1.out).blk
      have m0 := (hb.cell 0).trans hc.c0
      have m1 := (hb.cell 707).trans hc.c3
      have m2 := (hb.cell 1).trans hc.c1
      have m3 := hb.frozen 1
      clear n1 hb hc
      go_wp2_with fail
      go_quiet (fail)
      rename_i nq
      have ND := Lib.hid (N1.out.tr (Nb.drewN w1 nq))
      clear m0 m1 m2 m3 N1
      generalize w1.drewN nq = wd at *
      have MD := M.out.nb ND.out
      obtain ⟨⟨cs, hb, hc⟩, hap, ho, hl⟩ := MD
      have m2 := (hb.cell 1).trans hc.c1
      have m3 := hb.frozen 1
      have b2 := hb.set 1 (.int .i64 ((q.over : Int) + 1))
      have k2 : Kp (fun k => k = R) wd (wd.setCell ⟨R, 1, none⟩ (.int .i64 ((q.over : Int) + 1))) := Kp.set (F := fun k => k = R) rfl
      have hsz := hc.size
      have FM := Lib.hid (show FiM (wd.setCell ⟨R, 1, none⟩ (.int .i64 ((q.over : Int) + 1))) R first ⟨q.room, q.over + 1, q.its⟩ D from ⟨⟨_, b2, by
        have ne : ∀ k, k ≠ 1 → (cs.setIfInBounds 1 (.int .i64 ((q.over : Int) + 1)))[k]? = cs[k]? := fun k hk => Array.getElem?_setIfInBounds_ne (fun h => hk h.symm)
        refine ⟨by rw [Array.size_setIfInBounds]; exact hsz, (ne 0 (by omega)).trans hc.c0, ?_, (ne 706 (by omega)).trans hc.c2, (ne 707 (by omega)).trans hc.c3, fun j hj => ?_⟩
        · rw [Array.getElem?_setIfInBounds_self_of_lt (by omega)]
          push_cast
          rfl
        · obtain ⟨a', c', g1, g2⟩ := hc.ring j hj
          exact ⟨a', c', fun i hi => (ne _ (by omega)).trans (g1 i hi), g2.keep k2 (fun k hk => (hap k hk).1)⟩⟩, fun k hk => ⟨(hap k hk).1, Nat.lt_of_lt_of_le (hap k hk).2 k2.size⟩, ⟨ho.its, ho.room, ho.len⟩, hl⟩)
      have KP := Lib.hid ((Kp.ofNb (F := F) ND.out).tr k2 (fun k hk => .inl ((HF.out k).2 (.inl hk))))
      clear hb hc hap ho hl b2 k2 hsz
      go_wp2
      go_ret2
      exact ⟨F, rfl, ⟨R, first, D, rfl, FM.out, HF.out⟩, KP.out, fun k hk => .inl hk⟩
end Go.Proofs.YtlmbggmamemmjaaDoor
