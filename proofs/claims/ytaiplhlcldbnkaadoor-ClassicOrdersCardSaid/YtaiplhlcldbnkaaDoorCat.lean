
/- Contracts of slices.Grow and slices.Concat at two rows of bytes that are not both empty. Condition: sizes below 2 to the 46. -/
import Derived.Test.YtaiplhlcldbnkaaDoorCrcR
import Derived.Test.YtaiplhlcldbnkaaDoorRef
import Derived.Test.YtaiplhlcldbnkaaDoorFre
import Derived.Lib.AppendZeros
namespace Go.Proofs.YtaiplhlcldbnkaaDoor
set_option linter.unusedVariables false
set_option linter.unusedSimpArgs false
open Go.RowKit

/-- The same memory, taken as an empty row. -/
theorem OwnB.empty {w : World} {g n cap : Nat} {l : List Nat} (h : OwnB w (.slice (some ⟨g, 0, none⟩) n cap) l) : OwnB w (.slice (some ⟨g, 0, none⟩) 0 cap) [] := by
  obtain ⟨⟨h1, h2⟩, h3⟩ := h
  refine ⟨⟨by simp, ?_⟩, by simp⟩
  rcases h2 with ⟨h2, _⟩ | ⟨g', cap', cur, hv, hb, hh, hn, hm, hs, ht⟩
  · cases h2
  · cases hv
    exact .inr ⟨g, cap, cur, by simp, hb, hh, Nat.zero_le _, hm, hs, by simp⟩

set_option maxHeartbeats 800000 in
set_option maxRecDepth 100000 in
theorem grow_any (n : Nat) (w : World) (h0 : 0 < n) (hn : n ≤ 70368744177664) :
    Calls Tryd.prog 43 #[.slice none 0 0, .int .i64 n] w fun e w' => (∃ g c, e = .returned (.slice (some ⟨g, 0, none⟩) 0 c) ∧ OwnB w' (.slice (some ⟨g, 0, none⟩) 0 c) [] ∧ w.heap.size ≤ g) ∧ Nb w w' := by
  obtain ⟨i0, hi, hz0, hz1, hz2⟩ := info_parts infoU8
  have hge := grownCap_ge w n 0 5
  have hle := grownCap_le_maxLen w n 0 5 (by unfold maxLen; omega)
  have hrz : ∀ ty, _ := fun ty => Lib.run_append_nil_zeros (P := Tryd.prog) w 23 3 ty 5 i0 (.int .u8 0) .i64 .i64 Tryd.underlying23 Tryd.underlying3 hi hz0 n h0 (by omega) (by omega) (by rw [hz2]; omega)
  have hown : OwnB (w.drew.alloc (.cells (Builtin.zeroCells (Value.int .u8 0).cells n ++ Builtin.zeroCells (Value.int .u8 0).cells (grownCap w n 0 5 - n)) 5)) (.slice (some ⟨w.heap.size, 0, none⟩) 0 (grownCap w n 0 5)) [] := by
    refine ⟨⟨by simp, .inr ⟨w.heap.size, grownCap w n 0 5, _, by simp, Nat.zero_le _, heap_alloc_new w.drew _, Nat.zero_le _, hle, ?_, by simp⟩⟩, by simp⟩
    simp [Builtin.zeroCells, Value.cells]
    omega
  have HO := Lib.hid hown
  have hmx : grownCap w n 0 5 ≤ 9223372036854775807 := by unfold maxLen at hle; omega
  obtain ⟨G, hG⟩ : ∃ G, G = grownCap w n 0 5 := ⟨_, rfl⟩
  rw [← hG] at hrz hge hmx HO
  clear hown hle hG hi hz0 hz1 hz2
  go_enter Tryd.func43, Tryd.ntmps43
  go_wp2_with (at_builtin; refine Lib.wpList_append_run _ rfl _ _ _ _ rfl _ _ rfl rfl _ _ (hrz _) ?_)
  go_wp2
  go_ret
  exact ⟨⟨_, _, rfl, HO.out, Nat.le_refl _⟩, (show Nb w w.drew from Nb.drewN w 1).al _⟩

set_option maxHeartbeats 1600000 in
set_option maxRecDepth 100000 in
theorem concat_any (b o : Nat) (a1 a2 : Option Addr) (c1 c2 : Nat) (l1 l2 : List Nat) (w : World) (d1 : w.cell? ⟨b, o, none⟩ = some (.slice a1 l1.length c1)) (d2 : w.cell? ⟨b, o + 1, none⟩ = some (.slice a2 l2.length c2))
    (h1 : Bs w a1 c1 l1) (h2 : Bs w a2 c2 l2) (h2n : 0 < l2.length) (hn1 : a1 = none → c1 = 0) (hl1 : l1.length ≤ 1000000) (hl2 : l2.length ≤ 1000000) :
    Calls Tryd.prog 25 #[.slice (some ⟨b, o, none⟩) 2 2] w fun e w' => (∃ a c, e = .returned (.slice a (l1 ++ l2).length c) ∧ Fresh w w' (.slice a (l1 ++ l2).length c) (l1 ++ l2)) ∧ Nb w w' := by
  have hb := World.block_lt_of_cell? _ _ d1
  simp only at hb
  go_enter Tryd.func25, Tryd.ntmps25
  go_wp2
  go_loop [3, 11] (fun s i => (i = .int .i64 0 ∧ s = .int .i64 0) ∨ (i = .int .i64 1 ∧ s = .int .i64 (l1.length : Int)) ∨ (i = .int .i64 2 ∧ s = .int .i64 ((l1.length : Int) + (l2.length : Int)))) (fun _ i => 2 - (intOf i).toNat)
  case atStart => exact .inl ⟨rfl, rfl⟩
  case round =>
    rcases hrel with ⟨rfl, rfl⟩ | ⟨rfl, rfl⟩ | ⟨rfl, rfl⟩
    · go_wp2
      go_round
      case rel => exact .inr (.inl ⟨rfl, rfl⟩)
      case measure => simp [intOf]
    · go_wp2
      go_round
      case rel => exact .inr (.inr ⟨rfl, rfl⟩)
      case measure => simp [intOf]
    · have H1 := Lib.hid h1
      have H2 := Lib.hid h2
      have D1 := Lib.hid d1
      have D2 := Lib.hid d2
      clear h1 h2 d1 d2
      go_wp2_with fail
      have hgr := grow_any (l1.length + l2.length) w (by omega) (by omega)
      rw [show ((l1.length + l2.length : Nat) : Int) = (l1.length : Int) + (l2.length : Int) from by omega] at hgr
      refine hgr.mono ?_
      rintro e w1 ⟨⟨g, c, rfl, ho, hg⟩, hnb⟩
      clear hgr
      go_wp2
      go_loopw [6, 27] (fun v i wr => ((i = .int .i64 0 ∧ Fresh w wr v []) ∨ (i = .int .i64 1 ∧ Fresh w wr v l1) ∨ (i = .int .i64 2 ∧ Fresh w wr v (l1 ++ l2))) ∧ Nb w wr) (fun _ i _ => 2 - (intOf i).toNat)
      case atStart => exact ⟨.inl ⟨rfl, ho, by simpa [Value.ownBlock] using hg⟩, hnb⟩
      case round =>
        obtain ⟨hrel, hnb2⟩ := hrel
        clear ho hg hnb
        have e1 : wr.cell? ⟨b, o, none⟩ = some (.slice a1 l1.length c1) := (hnb2.cell (p := ⟨b, o, none⟩) hb).trans D1.out
        have e2 : wr.cell? ⟨b, o + 1, none⟩ = some (.slice a2 l2.length c2) := (hnb2.cell (p := ⟨b, o + 1, none⟩) hb).trans D2.out
        rcases hrel with ⟨rfl, ho⟩ | ⟨rfl, ho⟩ | ⟨rfl, ho⟩
        · go_wp2_with (at_builtin; refine wpList_appB _ rfl (.tmp 31) (.tmp 32) rfl _ [] rfl ho.1 a1 c1 l1 l1.length rfl rfl (H1.out.below hnb2) (by intro h; subst h; exact ⟨by rw [H1.out.none_len]; rfl, hn1 rfl⟩) (by simp; omega) ?_)
          intro v' w2 hown' hk hfr
          have hrel : Fresh w w2 v' l1 := ⟨hown', fun g hg => by
            rcases hfr g hg with h | h
            · exact ho.2 g h
            · exact Nat.le_trans hnb2.size h⟩
          have hnb3 : Nb w w2 := hnb2.trans (hk.toBelow hnb2.size ho.2)
          clear hown' hk hfr ho e1 e2 hnb2
          go_wp2
          go_roundw
          case rel => exact ⟨.inr (.inl ⟨rfl, hrel⟩), hnb3⟩
          case measure => simp [intOf]
        · go_wp2_with (at_builtin; refine wpList_appB _ rfl (.tmp 31) (.tmp 32) rfl _ l1 rfl ho.1 a2 c2 l2 l2.length rfl rfl (H2.out.below hnb2) (by intro h; subst h; have := H2.out.none_len; subst this; simp at h2n) (by omega) ?_)
          intro v' w2 hown' hk hfr
          have hrel : Fresh w w2 v' (l1 ++ l2) := ⟨hown', fun g hg => by
            rcases hfr g hg with h | h
            · exact ho.2 g h
            · exact Nat.le_trans hnb2.size h⟩
          have hnb3 : Nb w w2 := hnb2.trans (hk.toBelow hnb2.size ho.2)
          clear hown' hk hfr ho e1 e2 hnb2
          go_wp2
          go_roundw
          case rel => exact ⟨.inr (.inr ⟨rfl, hrel⟩), hnb3⟩
          case measure => simp [intOf]
        · obtain ⟨a', c', rfl, hbs, _⟩ := ho.1.bs
          have HO := Lib.hid ho
          clear ho hbs e1 e2
          go_wp2
          go_ret
          exact ⟨⟨_, _, rfl, HO.out⟩, hnb2⟩
end Go.Proofs.YtaiplhlcldbnkaaDoor
