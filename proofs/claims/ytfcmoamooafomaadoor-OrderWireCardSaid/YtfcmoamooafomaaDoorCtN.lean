
/- Contract of slices.Concat at any number of rows of bytes that are not all empty. Condition: sizes below a million. -/
import Derived.Test.YtfcmoamooafomaaDoorGc
namespace Go.Proofs.YtfcmoamooafomaaDoor
set_option linter.unusedVariables false
set_option linter.unusedSimpArgs false
open Go.RowKit

/-- The first rows, one behind the other. -/
def catN (L : Nat → List Nat) : Nat → List Nat
  | 0 => []
  | k + 1 => catN L k ++ L k
theorem catN_succ (L : Nat → List Nat) (k : Nat) : catN L (k + 1) = catN L k ++ L k := rfl
theorem catN_mono (L : Nat → List Nat) {j k : Nat} (h : j ≤ k) : (catN L j).length ≤ (catN L k).length := by
  induction k with
  | zero => obtain rfl : j = 0 := by omega
            exact Nat.le_refl _
  | succ k ih =>
    rcases Nat.lt_or_ge k j with h1 | h1
    · obtain rfl : j = k + 1 := by omega
      exact Nat.le_refl _
    · rw [catN_succ, List.length_append]
      have := ih h1
      omega

set_option maxHeartbeats 3200000 in
set_option maxRecDepth 100000 in
theorem concatN_any (b o n : Nat) (A : Nat → Option Addr) (C : Nat → Nat) (L : Nat → List Nat) (w : World) (hd : ∀ k, k < n → w.cell? ⟨b, o + k, none⟩ = some (.slice (A k) (L k).length (C k)))
    (hb : ∀ k, k < n → Bs w (A k) (C k) (L k)) (hz : ∀ k, k < n → A k = none → C k = 0) (h0 : 0 < (catN L n).length) (hl : (catN L n).length ≤ 1000000) (hN : n ≤ 1000) (hbs : b < w.heap.size) :
    Calls Tryd.prog 53 #[.slice (some ⟨b, o, none⟩) n n] w fun e w' => (∃ a c, e = .returned (.slice a (catN L n).length c) ∧ Fresh w w' (.slice a (catN L n).length c) (catN L n)) ∧ Nb w w' := by
  have HD := Lib.hid hd
  have HB := Lib.hid hb
  have HZ := Lib.hid hz
  have HL := Lib.hid hl
  have H0 := Lib.hid h0
  clear hd hb hz hl h0
  go_enter Tryd.func53, Tryd.ntmps53
  go_wp2
  go_loop [3, 11] (fun s i => ∃ k : Nat, k ≤ n ∧ i = .int .i64 (k : Int) ∧ s = .int .i64 ((catN L k).length : Int)) (fun _ i => n - (intOf i).toNat)
  case atStart => exact ⟨0, Nat.zero_le _, rfl, rfl⟩
  case round =>
    obtain ⟨k, hk, rfl, rfl⟩ := hrel
    by_cases hlt : k < n
    · have c1 := HD.out k hlt
      have e1 := Lib.hid (show ((catN L (k + 1)).length : Int) = ((catN L k).length : Int) + ((L k).length : Int) by rw [catN_succ, List.length_append]; push_cast; rfl)
      have e2 := catN_mono L (show k + 1 ≤ n by omega)
      rw [catN_succ, List.length_append] at e2
      have e3 := HL.out
      generalize (catN L n).length = N at *
      generalize (catN L k).length = S at *
      generalize (L k).length = T at *
      generalize A k = aa at *
      generalize C k = cc at *
      have d1 : decide ((S : Int) + (T : Int) < 0) = false := by simp; omega
      go_wp2
      go_round
      case rel => exact ⟨k + 1, by omega, by go_num, by rw [e1.out]⟩
      case measure => simp [intOf]; omega
    · obtain rfl : k = n := by omega
      have hgr := grow_any (catN L k).length w H0.out (by have := HL.out; omega)
      have HG := Lib.hid hgr
      have hle := HL.out
      clear hgr
      go_wp2_with fail
      refine HG.out.mono ?_
      rintro e w1 ⟨⟨g, c, rfl, ho, hg⟩, hnb⟩
      clear hle HG
      go_wp2
      go_loopw [6, 27] (fun v i wr => ∃ j : Nat, j ≤ k ∧ i = .int .i64 (j : Int) ∧ Fresh w wr v (catN L j) ∧ Nb w wr) (fun _ i _ => k - (intOf i).toNat)
      case atStart => exact ⟨0, Nat.zero_le _, rfl, ⟨ho, by simpa [Value.ownBlock] using hg⟩, hnb⟩
      case round =>
        clear ho hg hnb
        obtain ⟨j, hj, rfl, ho, hnb2⟩ := hrel
        by_cases hjt : j < k
        · have e1 : wr.cell? ⟨b, o + j, none⟩ = some (.slice (A j) (L j).length (C j)) := (hnb2.cell (p := ⟨b, o + j, none⟩) hbs).trans (HD.out j hjt)
          have hbj := (HB.out j hjt).below hnb2
          have hz : A j = none → (L j).length = 0 ∧ C j = 0 := fun h => ⟨by rw [h] at hbj; rw [hbj.none_len]; rfl, HZ.out j hjt h⟩
          have e2 := catN_mono L (show j + 1 ≤ k by omega)
          have e4 := Lib.hid (catN_succ L j)
          rw [catN_succ, List.length_append] at e2
          have e3 := HL.out
          generalize A j = aa at *
          generalize C j = cc at *
          have hlen : (catN L j).length + (L j).length ≤ 1000000 := by omega
          clear e2 e3
          go_wp2_with (at_builtin; refine wpList_appB _ rfl (.tmp 31) (.tmp 32) rfl _ (catN L j) rfl ho.1 aa cc (L j) (L j).length rfl rfl hbj hz (by omega) ?_)
          intro v' w2 hown' hk2 hfr
          have hrel : Fresh w w2 v' (catN L (j + 1)) := ⟨by rw [e4.out]; exact hown', fun g hg => by
            rcases hfr g hg with h | h
            · exact ho.2 g h
            · exact Nat.le_trans hnb2.size h⟩
          have hnb3 : Nb w w2 := hnb2.trans (hk2.toBelow hnb2.size ho.2)
          clear hown' hk2 hfr ho e1 hnb2 hbj hz e4 hlen
          go_wp2
          go_roundw
          case rel => exact ⟨j + 1, by omega, by go_num, hrel, hnb3⟩
          case measure => simp [intOf]; omega
        · obtain rfl : j = k := by omega
          obtain ⟨a', c', rfl, hbs2, _⟩ := ho.1.bs
          have HO := Lib.hid ho
          clear ho hbs2
          go_wp2
          go_ret
          exact ⟨⟨_, _, rfl, HO.out⟩, hnb2⟩

/-- Four rows. -/
theorem concat4_any (b o : Nat) (a1 a2 a3 a4 : Option Addr) (c1 c2 c3 c4 : Nat) (l1 l2 l3 l4 : List Nat) (w : World) (d1 : w.cell? ⟨b, o, none⟩ = some (.slice a1 l1.length c1)) (d2 : w.cell? ⟨b, o + 1, none⟩ = some (.slice a2 l2.length c2))
    (d3 : w.cell? ⟨b, o + 2, none⟩ = some (.slice a3 l3.length c3)) (d4 : w.cell? ⟨b, o + 3, none⟩ = some (.slice a4 l4.length c4))
    (h1 : Bs w a1 c1 l1) (h2 : Bs w a2 c2 l2) (h3 : Bs w a3 c3 l3) (h4 : Bs w a4 c4 l4) (n1 : a1 = none → c1 = 0) (n2 : a2 = none → c2 = 0) (n3 : a3 = none → c3 = 0) (n4 : a4 = none → c4 = 0)
    (h0 : 0 < (l1 ++ l2 ++ l3 ++ l4).length) (hl : (l1 ++ l2 ++ l3 ++ l4).length ≤ 1000000) :
    Calls Tryd.prog 53 #[.slice (some ⟨b, o, none⟩) 4 4] w fun e w' => (∃ a c, e = .returned (.slice a (l1 ++ l2 ++ l3 ++ l4).length c) ∧ Fresh w w' (.slice a (l1 ++ l2 ++ l3 ++ l4).length c) (l1 ++ l2 ++ l3 ++ l4)) ∧ Nb w w' := by
  have hb := World.block_lt_of_cell? _ _ d1
  have e : catN (fun k => match k with | 0 => l1 | 1 => l2 | 2 => l3 | _ => l4) 4 = l1 ++ l2 ++ l3 ++ l4 := by simp [catN]
  rw [← e] at h0 hl ⊢
  refine concatN_any b o 4 (fun k => match k with | 0 => a1 | 1 => a2 | 2 => a3 | _ => a4) (fun k => match k with | 0 => c1 | 1 => c2 | 2 => c3 | _ => c4) _ w ?_ ?_ ?_ h0 hl (by omega) hb
  all_goals
    intro k hk
    rcases (by omega : k = 0 ∨ k = 1 ∨ k = 2 ∨ k = 3) with rfl | rfl | rfl | rfl
    all_goals assumption
end Go.Proofs.YtfcmoamooafomaaDoor
