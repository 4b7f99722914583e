
/- The program's fifo: All and Clear. No conditions. -/
import Derived.Test.YtlmbggmamemmjaaDoorFiE
namespace Go.Proofs.YtlmbggmamemmjaaDoor
set_option linter.unusedVariables false
set_option linter.unusedSimpArgs false
open Go.RowKit

set_option maxHeartbeats 3200000 in
set_option maxRecDepth 100000 in
theorem allF2_any (v : Value) (q : Fi) (F : Nat → Prop) (w : World) (h : FiAt w v q F) :
    Calls Tryd.prog 21 #[v] w fun e w' => ∃ a c B P, e = .returned (.slice a q.its.length c) ∧ FrP2 w' a c q.its B P ∧ (∀ k, P k → w.heap.size ≤ k ∧ k < w'.heap.size) ∧ (∀ k, B k → w.heap.size ≤ k ∧ k < w'.heap.size ∧ ¬ P k) ∧ Nb w w' ∧ (a = none → c = 0) := by
  obtain ⟨R, first, D, rfl, m, hF⟩ := h
  have M := Lib.hid m
  obtain ⟨cs, hb, hc⟩ := m.blk
  have m1 := (hb.cell 707).trans hc.c3
  have hn64 : q.its.length ≤ 64 := by
    have := m.ok.its
    have := m.ok.room
    omega
  clear hb hc m hF
  go_enter Tryd.func21, Tryd.ntmps21
  go_wp2
  clear m1
  go_loopw [3, 12] (fun ov ix wr => ∃ (k : Nat) (L : List FrI) (P : Nat → Prop), k ≤ q.its.length ∧ ix = .int .i64 k ∧ OwnF wr ov L ∧ RowF (fun a c l => DatP wr a c l P) L ∧ L.map Prod.fst = q.its.take k ∧ (∀ g, ov.ownBlock = some g → w.heap.size ≤ g ∧ ¬ P g) ∧ (∀ k, P k → w.heap.size ≤ k ∧ k < wr.heap.size) ∧ Nb w wr) (fun _ ix _ => q.its.length - (intOf ix).toNat)
  case atStart => exact ⟨0, [], fun _ => False, Nat.zero_le _, rfl, OwnF.nil _, RowF.nil _, rfl, by simp [Value.ownBlock], fun _ h => h.elim, Nb.rfl⟩
  case round =>
    obtain ⟨k, L, P, hk, rfl, ho, hr, hm, hf, hp, hn⟩ := hrel
    have OW := Lib.hid ho
    have RW := Lib.hid hr
    have HM := Lib.hid hm
    have HF := Lib.hid hf
    have HP := Lib.hid hp
    have N := Lib.hid hn
    clear ho hr hm hf hp hn
    by_cases hlt : k < q.its.length
    · have hlt' : decide ((k : Int) < (q.its.length : Int)) = true := decide_eq_true (by omega)
      have hLL : L.length = k := by
        have := congrArg List.length HM.out
        rw [List.length_map, List.length_take] at this
        omega
      have hlen := M.out.ok.at k
      have AT := Lib.hid (atM_any (M.out.nb N.out) hlt)
      obtain ⟨⟨⟨K, I, X, R1, B, E, S, V1, V, A⟩, l⟩, hx⟩ : ∃ x, q.its.getD k dF = x := ⟨_, rfl⟩
      have TK := Lib.hid (show q.its.take (k + 1) = q.its.take k ++ [(⟨K, I, X, R1, B, E, S, V1, V, A⟩, l)] by rw [← hx, List.take_add_one]; simp [List.getD, hlt])
      rw [hx] at AT hlen
      simp only [Hd.cs] at AT
      have HL := Lib.hid hlen
      clear hx hlen
      go_wp2_with fail
      refine AT.out.mono ?_
      rintro e w1 ⟨a1, c1, rfl, d1, n1⟩
      have D1 := Lib.hid (d1.1.below n1)
      have N1 := Lib.hid n1
      clear d1 n1 AT
      go_wp2_with fail
      refine (copy_all ⟨K, I, X, R1, B, E, S, V1, V, A⟩ a1 c1 l _ D1.out (by have := HL.out; omega)).mono ?_
      rintro e w2 ⟨⟨a2, c2, rfl, f2⟩, n2⟩
      have F2 := Lib.hid f2
      have N2 := Lib.hid (N1.out.tr n2)
      have S1 := Lib.hid N1.out.size
      have B11 := Lib.hid (Blk.new w2 #[.int .i64 K, .int .u32 I, .bool X, .bool R1, .bool B, .bool E, .bool S, .int .u8 V1, .int .u8 V, .int .u32 A, .slice a2 l.length c2] 36)
      clear f2 n2
      simp only [Hd.cs]
      go_wp2_with (at_builtin; refine wpList_appF _ rfl (.tmp 15) (.tmp 22) rfl _ L rfl (OW.out.nb (N2.out.al _)) w2.heap.size ⟨K, I, X, R1, B, E, S, V1, V, A⟩ l a2 c2 rfl (fun i hi => (B11.out.cell i).trans (by rw [List.getElem?_toArray])) (by rw [hLL]; omega) ?_)
      intro vo w3 ho3 hk3 hf3
      have NA : Nb wr (w2.alloc (.cells #[.int .i64 K, .int .u32 I, .bool X, .bool R1, .bool B, .bool E, .bool S, .int .u8 V1, .int .u8 V, .int .u32 A, .slice a2 l.length c2] 36)) := N2.out.al _
      have hg2 : ∀ g, Value.ownBlock (.slice a2 l.length c2) = some g → wr.heap.size ≤ g := fun g hg => Nat.le_trans S1.out (F2.out.2 g hg)
      have hg3 : ∀ g, Value.ownBlock (.slice a2 l.length c2) = some g → g < w2.heap.size := fun g hg => F2.out.1.lt hg
      have R1' := Lib.hid ho3
      have dn : DatP w3 a2 c2 l (fun k => P k ∨ Value.ownBlock (.slice a2 l.length c2) = some k) := ((OwnB.dat (X := fun k => Value.ownBlock (.slice a2 l.length c2) = some k) F2.out.1 (fun g hg => hg)).nb (Nb.rfl.al _)).keep hk3 (fun g hg hq => by have := hg2 g hg; have := OW.out.lt hq; omega) |>.up (fun k hk => .inr hk)
      have R2 := Lib.hid ((RW.out.imp (fun a c l d => ((d.nb NA).keep hk3 (fun g hg hq => (HF.out g hq).2 hg)).up (fun k hk => Or.inl hk) : ∀ a c l, _ → DatP w3 a c l (fun k => P k ∨ Value.ownBlock (.slice a2 _ c2) = some k))).app (RowF.one (f := ⟨K, I, X, R1, B, E, S, V1, V, A⟩) dn))
      have R3 := Lib.hid (show ∀ g, vo.ownBlock = some g → w.heap.size ≤ g ∧ ¬ (P g ∨ Value.ownBlock (.slice a2 l.length c2) = some g) from fun g hg => by
        have hs := N.out.size
        have ha := NA.size
        rw [World.size_alloc] at ha
        rcases hf3 g hg with h | h
        · refine ⟨(HF.out g h).1, fun q => ?_⟩
          rcases q with q | q
          · exact (HF.out g h).2 q
          · have := hg2 g q
            have := OW.out.lt h
            omega
        · refine ⟨by omega, fun q => ?_⟩
          rcases q with q | q
          · have := (HP.out g q).2
            omega
          · have := hg3 g q
            omega)
      have R4 := Lib.hid (show ∀ k, (P k ∨ Value.ownBlock (.slice a2 l.length c2) = some k) → w.heap.size ≤ k ∧ k < w3.heap.size from fun g q => by
        have hs := N.out.size
        have ha := NA.size
        have h3 := hk3.size
        rw [World.size_alloc] at ha h3
        rcases q with q | q
        · have := HP.out g q
          omega
        · have := hg2 g q
          have := hg3 g q
          omega)
      have R5 := Lib.hid (show Nb w w3 from (N.out.tr NA).trans (hk3.toBelow (N.out.tr NA).size (fun g hg => (HF.out g hg).1)))
      clear ho3 hk3 hf3 NA hg2 hg3 dn B11
      go_wp2
      go_roundw
      case rel => exact ⟨k + 1, _, _, by omega, by go_num, R1'.out, R2.out, by rw [List.map_append, HM.out, TK.out]; rfl, R3.out, R4.out, R5.out⟩
      case measure => simp [intOf]; omega
    · have hlt' : decide ((k : Int) < (q.its.length : Int)) = false := decide_eq_false (by omega)
      obtain rfl : k = q.its.length := by omega
      have hmt : L.map Prod.fst = q.its := by rw [HM.out, List.take_of_length_le (Nat.le_refl _)]
      have hll : q.its.length = L.length := by rw [← hmt, List.length_map]
      obtain ⟨a', c', e, g1, g2, g3, g4⟩ := OW.out.shape
      subst e
      have FR := (OwnF.frp2 OW.out RW.out).2
      rw [hmt] at FR
      have FRH := Lib.hid FR
      have G4 := Lib.hid g4
      have HLL := Lib.hid hll
      clear FR g1 g2 g3 g4 hmt hll
      go_wp2
      go_ret
      exact ⟨a', c', _, _, (by rw [HLL.out]; rfl), FRH.out, HP.out, fun g hg => ⟨(HF.out g hg).1, OW.out.lt hg, (HF.out g hg).2⟩, N.out, G4.out⟩
theorem allF_any (v : Value) (q : Fi) (F : Nat → Prop) (w : World) (h : FiAt w v q F) :
    Calls Tryd.prog 21 #[v] w fun e w' => ∃ a c P, e = .returned (.slice a q.its.length c) ∧ FrP w' a c q.its P ∧ (∀ k, P k → w.heap.size ≤ k ∧ k < w'.heap.size) ∧ Nb w w' ∧ (a = none → c = 0) := by
  refine (allF2_any v q F w h).mono ?_
  rintro e w' ⟨a, c, B, P, rfl, g1, g2, g3, g4, g5⟩
  exact ⟨a, c, _, rfl, g1.frp, fun k hk => by
    rcases hk with hk | hk
    · exact g2 k hk
    · exact ⟨(g3 k hk).1, (g3 k hk).2.1⟩, g4, g5⟩

set_option maxHeartbeats 3200000 in
set_option maxRecDepth 100000 in
theorem clearF_any (v : Value) (q : Fi) (F : Nat → Prop) (w : World) (h : FiAt w v q F) :
    Calls Tryd.prog 16 #[v] w fun e w' => ∃ a c P, e = .returned (.slice a q.its.length c) ∧ FrP w' a c q.its P ∧ (∀ k, P k → w.heap.size ≤ k ∧ k < w'.heap.size) ∧ FiAt w' v q.clear F ∧ Kp F w w' ∧ (a = none → c = 0) := by
  have hall := allF_any v q F w h
  obtain ⟨R, first, D, rfl, m, hF⟩ := h
  have M := Lib.hid m
  have HF := Lib.hid hF
  have HA := Lib.hid hall
  have hRl : R < w.heap.size := by
    obtain ⟨cs, hb, _⟩ := m.blk
    exact hb.lt
  clear m hF hall
  go_enter Tryd.func16, Tryd.ntmps16
  go_wp2_with fail
  refine HA.out.mono ?_
  rintro e w1 ⟨a, c, P, rfl, hfr, hp, n1, hnn⟩
  have FR := Lib.hid hfr
  have HP := Lib.hid hp
  have N1 := Lib.hid n1
  have NN := Lib.hid hnn
  obtain ⟨cs, hb, hc⟩ := (M.out.nb n1).blk
  have m0 := (hb.cell 0).trans hc.c0
  have HB := Lib.hid hb
  have HS := Lib.hid hc.size
  clear hfr hp n1 hnn hb hc HA
  go_wp2_with (first
    | (refine wpList_build16 rfl _ rfl _ rfl ?_; intro Z hZ; have HZ := Lib.hid hZ; clear hZ)
    | (refine wpList_store16 rfl _ _ rfl R rfl _ Z rfl HZ.out cs HB.out HS.out ?_))
  go_ret
  have kp := Kp.setRow w1 R Z
  exact ⟨a, c, P, rfl, FR.out.keep kp (fun k hk => by have := (HP.out k hk).1; omega), fun k hk => ⟨(HP.out k hk).1, Nat.lt_of_lt_of_le (HP.out k hk).2 kp.size⟩, ⟨R, 0, D, rfl, ⟨⟨Z, HB.out.setRow Z, HZ.out.fi _ _⟩, fun k hk => ⟨(M.out.ap k hk).1, Nat.lt_of_lt_of_le (M.out.ap k hk).2 (Nat.le_trans N1.out.size kp.size)⟩, Fi.Ok.new M.out.ok.room, by omega⟩, HF.out⟩, (Kp.ofNb (F := F) N1.out).tr kp (fun k hk => .inl ((HF.out k).2 (.inl hk))), NN.out⟩
end Go.Proofs.YtlmbggmamemmjaaDoor
