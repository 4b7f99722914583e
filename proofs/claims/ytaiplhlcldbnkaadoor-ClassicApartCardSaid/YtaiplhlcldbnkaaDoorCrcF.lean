
/- Contracts of Add and Fits. Condition: the package's table of kinds holds what the program's text lays there. -/
import Derived.Test.YtaiplhlcldbnkaaDoorCat
namespace Go.Proofs.YtaiplhlcldbnkaaDoor
set_option linter.unusedVariables false
set_option linter.unusedSimpArgs false
open Go.RowKit

def addL (k : Int) (l : List Nat) : List Nat := if moreOk k (startK k) l then l ++ bitsN (runC (szK k) (polyK k) (startK k) l) (szK k) else []
def fitsB (k : Int) (l : List Nat) : Bool :=
  decide (szK k ≠ 0) && decide (szK k ≤ l.length) && chk l && decide (numN (l.drop (l.length - szK k)) = runC (szK k) (polyK k) (startK k) (l.take (l.length - szK k)))

theorem beq_nat (a b : Nat) : ((a : Int) == (b : Int)) = decide (a = b) := by
  by_cases h : a = b
  · simp [h]
  · have : ¬ (a : Int) = (b : Int) := by omega
    simp [h, this]

theorem sumN_ok {k : Int} {l : List Nat} (h : moreOk k (startK k) l = true) : sumN k l = runC (szK k) (polyK k) (startK k) l ∧ sumE k l = 0 := by simp [sumN, sumE, moreN, moreE, h]
theorem sumN_bad {k : Int} {l : List Nat} (h : moreOk k (startK k) l = false) : sumN k l = 0 ∧ sumE k l = 2 := by simp [sumN, sumE, moreN, moreE, h]
theorem moreOk_parts {k : Int} {s : Nat} {l : List Nat} (h : moreOk k s l = true) : szK k ≠ 0 ∧ s < 2 ^ szK k ∧ chk l = true := by
  simp only [moreOk, Bool.and_eq_true, decide_eq_true_eq] at h
  exact ⟨h.1.1, h.1.2, h.2⟩
theorem moreOk_start {k : Int} {l : List Nat} (hz : szK k ≠ 0) (hc : chk l = true) : moreOk k (startK k) l = true := by
  simp [moreOk, hz, hc, (kindOk k hz).start]
set_option maxHeartbeats 1600000 in
set_option maxRecDepth 100000 in
theorem add_u (k : Int) (a : Option Addr) (cap : Nat) (l : List Nat) (w : World) (hk : Kinds w) (h : Bs w a cap l) (hn : a = none → cap = 0) :
    Calls Tryd.prog 38 #[.int .i64 k, .slice a l.length cap] w fun e w' => (∃ a' c', e = .returned (.tuple #[.slice a' (addL k l).length c', .int .i64 (sumE k l)]) ∧ Fresh w w' (.slice a' (addL k l).length c') (addL k l)) ∧ Nb w w' := by
  have hL := h.len
  have H := Lib.hid h
  have HK := Lib.hid hk
  cases hm : moreOk k (startK k) l with
  | false =>
    have hs := sumN_bad hm
    have ha : addL k l = [] := by simp [addL, hm]
    have h1 := sum_u k a cap l w hk h
    rw [hs.1, hs.2] at h1
    rw [ha, hs.2]
    have H1 := Lib.hid h1
    clear h hk hm hs ha h1
    go_enter Tryd.func38, Tryd.ntmps38
    go_wp2_with fail
    refine H1.out.mono ?_
    rintro e w1 ⟨rfl, hnb⟩
    go_wp2
    go_ret2
    exact ⟨⟨none, 0, rfl, OwnB.nil _, by simp [Value.ownBlock]⟩, hnb⟩
  | true =>
    obtain ⟨hz, _, hc⟩ := moreOk_parts hm
    obtain ⟨n1, n2, n3, _, n5⟩ := kindOk k hz
    have hs := sumN_ok hm
    have ha : addL k l = l ++ bitsN (runC (szK k) (polyK k) (startK k) l) (szK k) := by simp [addL, hm]
    have h1 := sum_u k a cap l w hk h
    rw [hs.1, hs.2] at h1
    rw [ha, hs.2]
    have hS := runC_lt n3 l _ n5
    generalize runC (szK k) (polyK k) (startK k) l = S at *
    have H1 := Lib.hid h1
    have HS := Lib.hid hS
    have hl := chk_len hc
    have hbl := bitsN_length S (szK k)
    clear h hk hm hs ha h1 hS hc n3 n5
    go_enter Tryd.func38, Tryd.ntmps38
    go_wp2_with fail
    refine H1.out.mono ?_
    rintro e w1 ⟨rfl, hnb⟩
    go_wp2_with fail
    refine (size_any k _ (HK.out.below hnb)).mono ?_
    rintro e w2 ⟨rfl, hnb2⟩
    go_wp2_with fail
    refine (put_ok S (szK k) _ (by omega) HS.out).mono ?_
    rintro e w3 ⟨⟨a3, c3, rfl, hb3⟩, hnb3⟩
    have HB := Lib.hid hb3
    have n123 := (hnb.tr hnb2).tr hnb3
    have N123 := Lib.hid n123
    clear hb3 hnb hnb2 hnb3
    go_wp2_with fail
    have hcat := concat_any w3.heap.size 0 a a3 cap c3 l (bitsN S (szK k)) (w3.alloc (.cells #[.slice a l.length cap, .slice a3 (szK k) c3] 23)) (by simp) (by simp [hbl]) (H.out.below (n123.al _)) (HB.out.below (Nb.rfl.al _)) (by omega) hn (by omega) (by omega)
    refine hcat.mono ?_
    rintro e w4 ⟨⟨a', c', rfl, hf⟩, hn4⟩
    have hfin : (Fresh w w4 (.slice a' (l ++ bitsN S (szK k)).length c') (l ++ bitsN S (szK k))) := ⟨hf.1, fun g hg => Nat.le_trans (n123.al _).size (hf.2 g hg)⟩
    have hnf := (n123.al _).tr hn4
    have HF := Lib.hid hfin
    clear hcat hf hfin hn4 n123
    go_wp2
    go_ret2
    exact ⟨⟨a', c', by rw [List.length_append, hbl]; rfl, HF.out⟩, hnf⟩

/-! The document's own. -/
set_option maxHeartbeats 1600000 in
set_option maxRecDepth 100000 in
theorem refadd_u (k : Int) (a : Option Addr) (cap : Nat) (l : List Nat) (w : World) (h : Bs w a cap l) (hn : a = none → cap = 0) :
    Calls Tryd.prog 32 #[.int .i64 k, .slice a l.length cap] w fun e w' => AnsB (addL k l) (sumE k l) e w' ∧ Nb w w' := by
  have hL := h.len
  have H := Lib.hid h
  cases hm : moreOk k (startK k) l with
  | false =>
    have hs := sumN_bad hm
    have ha : addL k l = [] := by simp [addL, hm]
    have h1 := refsum_u k a cap l w h
    rw [hs.1, hs.2] at h1
    rw [ha, hs.2]
    have H1 := Lib.hid h1
    clear h hm hs ha h1
    go_enter Tryd.func32, Tryd.ntmps32
    go_wp2_with fail
    refine H1.out.mono ?_
    rintro e w1 ⟨rfl, hnb⟩
    go_wp2
    go_ret2
    exact ⟨⟨none, 0, rfl, Bs.nil _⟩, hnb⟩
  | true =>
    obtain ⟨hz, _, hc⟩ := moreOk_parts hm
    obtain ⟨n1, n2, n3, _, n5⟩ := kindOk k hz
    have hs := sumN_ok hm
    have ha : addL k l = l ++ bitsN (runC (szK k) (polyK k) (startK k) l) (szK k) := by simp [addL, hm]
    have h1 := refsum_u k a cap l w h
    rw [hs.1, hs.2] at h1
    rw [ha, hs.2]
    have hS := runC_lt n3 l _ n5
    generalize runC (szK k) (polyK k) (startK k) l = S at *
    have h64 : (2 : Nat) ^ szK k ≤ 4294967296 := Nat.pow_le_pow_right (by omega) n2
    have H1 := Lib.hid h1
    have hS64 : S < 18446744073709551616 := by omega
    have hl := chk_len hc
    have hbl := bitsN_length S (szK k)
    clear h hm hs ha h1 hS hc n3 n5 h64
    go_enter Tryd.func32, Tryd.ntmps32
    go_wp2_with fail
    refine H1.out.mono ?_
    rintro e w1 ⟨rfl, hnb⟩
    go_wp2_with fail
    refine (of_any k _).mono ?_
    rintro e w2 ⟨rfl, rfl⟩
    go_wp2_with (at_builtin; refine wpList_appB _ rfl (.tmp 26) (.tmp 27) rfl _ [] rfl (OwnB.fresh0 _) a cap l l.length rfl rfl (H.out.below (hnb.al _)) (by intro h; subst h; exact ⟨by rw [H.out.none_len]; rfl, hn rfl⟩) (by simp; omega) ?_)
    intro v1 w2 ho1 hk1 hf1
    have fr1 : ∀ g, v1.ownBlock = some g → w.heap.size ≤ g := fun g hg => by
      rcases hf1 g hg with h | h
      · simp [Value.ownBlock] at h
        have := hnb.size
        omega
      · have := hnb.size
        omega
    have hnb2 : Nb w w2 := (hnb.al _).trans (hk1.toBelow (Nat.le_trans hnb.size (by simp)) (by intro g hg; simp [Value.ownBlock] at hg; have := hnb.size; omega))
    have HO := Lib.hid ho1
    clear ho1 hk1 hf1 hnb
    go_wp2_with fail
    refine (refbits_any S (szK k) _ hS64 (by omega)).mono ?_
    rintro e w3 ⟨⟨a3, c3, rfl, hb3⟩, hnb3⟩
    have ho2 := HO.out.keep (F := fun _ => False) (Kp.ofNb hnb3) (by simp)
    have hsz3 : a3 = none → szK k = 0 ∧ c3 = 0 := by
      rintro rfl
      exact absurd (by rw [← hbl, hb3.none_len]; rfl : szK k = 0) hz
    go_wp2_with (at_builtin; refine wpList_appB _ rfl (.tmp 28) (.tmp 31) rfl _ l rfl ho2 a3 c3 (bitsN S (szK k)) (szK k) hbl.symm rfl hb3 hsz3 (by omega) ?_)
    intro v2 w4 ho4 hk4 hf4
    obtain ⟨a4, c4, rfl, hb4, _⟩ := ho4.bs
    have hnb4 : Nb w w4 := (hnb2.tr hnb3).trans (hk4.toBelow (hnb2.tr hnb3).size fr1)
    have HB := Lib.hid hb4
    clear ho4 hk4 hf4 hb4 ho2 hnb2 hnb3 hb3
    go_wp2
    go_ret2
    exact ⟨⟨a4, c4, rfl, HB.out⟩, hnb4⟩

end Go.Proofs.YtaiplhlcldbnkaaDoor
