/- Contracts of Add and Fits. Condition: the package's table of kinds holds what the program's text lays there. -/
import Derived.Test.YtmfahnfmahahjaaDoorCat
namespace Go.Proofs.YtmfahnfmahahjaaDoor
open Go.RowKit

def addL (k : Int) (l : List Nat) : List Nat := if moreOk k (startK k) l then l ++ bitsN (runC (szK k) (polyK k) (startK k) l) (szK k) else []
def fitsB (k : Int) (l : List Nat) : Bool :=
  decide (szK k ≠ 0) && decide (szK k ≤ l.length) && chk l && decide (numN (l.drop (l.length - szK k)) = runC (szK k) (polyK k) (startK k) (l.take (l.length - szK k)))

theorem beq_nat (a b : Nat) : ((a : Int) == (b : Int)) = decide (a = b) := by
  by_cases h : a = b
  · simp [h]
  · have : ¬ (a : Int) = (b : Int) := by omega
    simp [h, this]

theorem sumN_ok {k : Int} {l : List Nat} (h : moreOk k (startK k) l = true) : sumN k l = runC (szK k) (polyK k) (startK k) l ∧ sumE k l = 0 := by simp [sumN, sumE, moreN, moreE, h]
theorem sumN_bad {k : Int} {l : List Nat} (h : moreOk k (startK k) l = false) : sumN k l = 0 ∧ sumE k l = 2 := by simp [sumN, sumE, moreN, moreE, h]
theorem moreOk_parts {k : Int} {s : Nat} {l : List Nat} (h : moreOk k s l = true) : szK k ≠ 0 ∧ s < 2 ^ szK k ∧ chk l = true := by
  simp only [moreOk, Bool.and_eq_true, decide_eq_true_eq] at h
  exact ⟨h.1.1, h.1.2, h.2⟩
theorem moreOk_start {k : Int} {l : List Nat} (hz : szK k ≠ 0) (hc : chk l = true) : moreOk k (startK k) l = true := by
  simp [moreOk, hz, hc, (kindOk k hz).start]
theorem chk_sub {l m : List Nat} (h : chk l = true) (hm : ∀ x ∈ m, x ∈ l) (hl : m.length ≤ l.length) : chk m = true := by
  have h1 := chk_len h
  have h2 := chk_bit h
  simp only [chk, Bool.and_eq_true, decide_eq_true_eq, List.all_eq_true]
  exact ⟨by omega, fun x hx => h2 x (hm x hx)⟩

theorem Bs.head {w : World} {a : Option Addr} {cap : Nat} {l : List Nat} (h : Bs w a cap l) (n : Nat) : Bs w a cap (l.take n) := by
  have hc := h.hcap
  refine ⟨by rw [List.length_take]; omega, h.hmax, fun x hx => h.hbyte x (List.mem_of_mem_take hx), fun h0 => ?_⟩
  rw [List.length_take] at h0
  obtain ⟨b, o, ha, hcl⟩ := h.hcells (by omega)
  refine ⟨b, o, ha, fun j hj => ?_⟩
  rw [List.length_take] at hj
  rw [hcl j (by omega)]
  simp [List.getD, show j < n by omega]
theorem Bs.tail {w : World} {b o cap : Nat} {l : List Nat} (h : Bs w (some ⟨b, o, none⟩) cap l) (i : Nat) (hi : i ≤ l.length) : Bs w (some ⟨b, o + i, none⟩) (cap - i) (l.drop i) := by
  have := h.cut i (l.length - i) (by omega)
  rwa [List.take_of_length_le (by rw [List.length_drop]; omega)] at this

set_option maxHeartbeats 1600000 in
set_option maxRecDepth 100000 in
theorem add_u (k : Int) (a : Option Addr) (cap : Nat) (l : List Nat) (w : World) (hk : Kinds w) (h : Bs w a cap l) (hn : a = none → cap = 0) :
    Calls Tryd.prog 17 #[.int .i64 k, .slice a l.length cap] w fun e w' => (∃ a' c', e = .returned (.tuple #[.slice a' (addL k l).length c', .int .i64 (sumE k l)]) ∧ Fresh w w' (.slice a' (addL k l).length c') (addL k l)) ∧ Nb w w' := by
  have hL := h.len
  have H := Lib.hid h
  have HK := Lib.hid hk
  cases hm : moreOk k (startK k) l with
  | false =>
    have hs := sumN_bad hm
    have ha : addL k l = [] := by simp [addL, hm]
    have h1 := sum_u k a cap l w hk h
    rw [hs.1, hs.2] at h1
    rw [ha, hs.2]
    have H1 := Lib.hid h1
    clear h hk hm hs ha h1
    go_enter Tryd.func17, Tryd.ntmps17
    go_wp2_with fail
    refine H1.out.mono ?_
    rintro e w1 ⟨rfl, hnb⟩
    go_wp2
    go_ret2
    exact ⟨⟨none, 0, rfl, OwnB.nil _, by simp [Value.ownBlock]⟩, hnb⟩
  | true =>
    obtain ⟨hz, _, hc⟩ := moreOk_parts hm
    obtain ⟨n1, n2, n3, _, n5⟩ := kindOk k hz
    have hs := sumN_ok hm
    have ha : addL k l = l ++ bitsN (runC (szK k) (polyK k) (startK k) l) (szK k) := by simp [addL, hm]
    have h1 := sum_u k a cap l w hk h
    rw [hs.1, hs.2] at h1
    rw [ha, hs.2]
    have hS := runC_lt n3 l _ n5
    generalize runC (szK k) (polyK k) (startK k) l = S at *
    have H1 := Lib.hid h1
    have HS := Lib.hid hS
    have hl := chk_len hc
    have hbl := bitsN_length S (szK k)
    clear h hk hm hs ha h1 hS hc n3 n5
    go_enter Tryd.func17, Tryd.ntmps17
    go_wp2_with fail
    refine H1.out.mono ?_
    rintro e w1 ⟨rfl, hnb⟩
    go_wp2_with fail
    refine (size_any k _ (HK.out.below hnb)).mono ?_
    rintro e w2 ⟨rfl, hnb2⟩
    go_wp2_with fail
    refine (put_ok S (szK k) _ (by omega) HS.out).mono ?_
    rintro e w3 ⟨⟨a3, c3, rfl, hb3⟩, hnb3⟩
    have HB := Lib.hid hb3
    have n123 := (hnb.tr hnb2).tr hnb3
    have N123 := Lib.hid n123
    clear hb3 hnb hnb2 hnb3
    go_wp2_with fail
    have hcat := concat_any w3.heap.size 0 a a3 cap c3 l (bitsN S (szK k)) (w3.alloc (.cells #[.slice a l.length cap, .slice a3 (szK k) c3] 23)) (by simp) (by simp [hbl]) (H.out.below (n123.al _)) (HB.out.below (Nb.rfl.al _)) (by omega) hn (by omega) (by omega)
    refine hcat.mono ?_
    rintro e w4 ⟨⟨a', c', rfl, hf⟩, hn4⟩
    have hfin : (Fresh w w4 (.slice a' (l ++ bitsN S (szK k)).length c') (l ++ bitsN S (szK k))) := ⟨hf.1, fun g hg => Nat.le_trans (n123.al _).size (hf.2 g hg)⟩
    have hnf := (n123.al _).tr hn4
    have HF := Lib.hid hfin
    clear hcat hf hfin hn4 n123
    go_wp2
    go_ret2
    exact ⟨⟨a', c', by rw [List.length_append, hbl]; rfl, HF.out⟩, hnf⟩

set_option maxHeartbeats 1600000 in
set_option maxRecDepth 100000 in
theorem fits_u (k : Int) (a : Option Addr) (cap : Nat) (l : List Nat) (w : World) (hk : Kinds w) (h : Bs w a cap l) (hn : a = none → cap = 0) :
    Calls Tryd.prog 20 #[.int .i64 k, .slice a l.length cap] w fun e w' => e = .returned (.bool (fitsB k l)) ∧ Nb w w' := by
  have hL := h.len
  have hcap := h.hcap
  have hmax := h.hmax
  unfold maxLen at hmax
  have H := Lib.hid h
  have HK := Lib.hid hk
  by_cases hlen : l.length < szK k
  · have hf : fitsB k l = false := by simp [fitsB]; omega
    rw [hf]
    have hz : szK k ≠ 0 := by omega
    obtain ⟨n1, n2, _, _, _⟩ := kindOk k hz
    clear h hk hf
    go_enter Tryd.func20, Tryd.ntmps20
    go_wp2_with fail
    refine (size_any k _ HK.out).mono ?_
    rintro e w1 ⟨rfl, hnb⟩
    go_wp2
    go_ret
    exact ⟨rfl, hnb⟩
  have hsz : szK k ≤ 32 := by
    by_cases hz : szK k = 0
    · omega
    · exact (kindOk k hz).le
  have hge : szK k ≤ l.length := by omega
  cases hc : chk l with
  | false =>
    have hf : fitsB k l = false := by simp [fitsB, hc]
    rw [hf]
    have HC := Lib.hid hc
    clear h hk hf hc
    go_enter Tryd.func20, Tryd.ntmps20
    go_wp2_with fail
    refine (size_any k _ HK.out).mono ?_
    rintro e w1 ⟨rfl, hnb⟩
    go_wp2_with fail
    refine (check_bad a cap l _ (H.out.below hnb) HC.out).mono ?_
    rintro e w2 ⟨rfl, rfl⟩
    go_wp2
    go_ret
    exact ⟨rfl, hnb⟩
  | true =>
    have HC := Lib.hid hc
    have hlt := chk_len hc
    obtain ⟨m, hm⟩ : ∃ m, m = l.length - szK k := ⟨_, rfl⟩
    have hm1 : (l.length : Int) - (szK k : Int) = (m : Int) := by omega
    by_cases hz : szK k = 0
    · have hf : fitsB k l = false := by simp [fitsB, hz]
      rw [hf]
      have hml : m = l.length := by omega
      have h1 := fun w' => sum_u k a cap l w'
      have hb : moreOk k (startK k) l = false := by simp [moreOk, hz]
      simp only [sumN_bad hb] at h1
      have H1 := Lib.hid h1
      clear h hk hf hc h1 hb hlen
      go_enter Tryd.func20, Tryd.ntmps20
      go_wp2_with fail
      refine (size_any k _ HK.out).mono ?_
      rintro e w1 ⟨rfl, hnb⟩
      go_wp2_with fail
      refine (check_ok a cap l _ (H.out.below hnb) HC.out).mono ?_
      rintro e w2 ⟨rfl, rfl⟩
      go_wp2_with fail
      refine (H1.out _ (HK.out.below hnb) (H.out.below hnb)).mono ?_
      rintro e w3 ⟨rfl, hnb3⟩
      go_wp2
      go_ret
      exact ⟨rfl, hnb.tr hnb3⟩
    · obtain ⟨n1, n2, n3, _, n5⟩ := kindOk k hz
      obtain ⟨b, o, rfl, _⟩ := h.hcells (by omega)
      have hlT : (l.take m).length = m := by rw [List.length_take]; omega
      have hlD : (l.drop m).length = szK k := by rw [List.length_drop]; omega
      have hcT : chk (l.take m) = true := chk_sub hc (fun x hx => List.mem_of_mem_take hx) (by omega)
      have hcD : getOk (l.drop m) = true := by
        have := chk_sub hc (m := l.drop m) (fun x hx => List.mem_of_mem_drop hx) (by omega)
        simp only [getOk, this, Bool.and_true, decide_eq_true_eq]
        omega
      have hS := sumN_ok (moreOk_start hz hcT)
      have hf : fitsB k l = decide (numN (l.drop m) = runC (szK k) (polyK k) (startK k) (l.take m)) := by simp [fitsB, hz, hge, hc, ← hm]
      rw [hf]
      have h1 := fun w' hk' hb' => sum_u k (some ⟨b, o, none⟩) cap (l.take m) w' hk' hb'
      have h2 := fun w' hb' => get_ok (some ⟨b, o + m, none⟩) (cap - m) (l.drop m) w' hb' hcD
      rw [hS.1, hS.2, hlT] at h1
      rw [hlD] at h2
      have HT := Lib.hid (h.head m)
      have HD := Lib.hid (h.tail m (by omega))
      have H1 := Lib.hid h1
      have H2 := Lib.hid h2
      generalize runC (szK k) (polyK k) (startK k) (l.take m) = S at *
      generalize numN (l.drop m) = T at *
      have hm2 : (m : Int) ≤ (l.length : Int) := by omega
      have hm3 : (l.length : Int) - (m : Int) = (szK k : Int) := by omega
      have hm4 : l.length - m = szK k := by omega
      clear h hk hf hc h1 h2 hS hcT hcD hlT hlD hm n5
      go_enter Tryd.func20, Tryd.ntmps20
      go_wp2_with fail
      refine (size_any k _ HK.out).mono ?_
      rintro e w1 ⟨rfl, hnb⟩
      go_wp2_with fail
      refine (check_ok (some ⟨b, o, none⟩) cap l _ (H.out.below hnb) HC.out).mono ?_
      rintro e w2 ⟨rfl, rfl⟩
      go_wp2_with fail
      refine (H1.out _ (HK.out.below hnb) (HT.out.below hnb)).mono ?_
      rintro e w3 ⟨rfl, hnb3⟩
      go_wp2_with fail
      refine (H2.out _ ((HD.out.below hnb).below hnb3)).mono ?_
      rintro e w4 ⟨rfl, hnb4⟩
      go_wp2
      go_ret
      exact ⟨congrArg (fun x => Ending.returned (Value.bool x)) (beq_nat T S), ((hnb.tr hnb3).tr hnb4)⟩

theorem OwnB.fresh0 (w : World) : OwnB (w.alloc (.cells #[] 5)) (.slice (some ⟨w.heap.size, 0, none⟩) 0 0) [] :=
  ⟨⟨by simp, .inr ⟨w.heap.size, 0, #[], by simp, Nat.zero_le _, heap_alloc_new w _, Nat.zero_le _, by simp [maxLen], by simp, by simp⟩⟩, by simp⟩

/-! The document's own. -/
set_option maxHeartbeats 1600000 in
set_option maxRecDepth 100000 in
theorem refadd_u (k : Int) (a : Option Addr) (cap : Nat) (l : List Nat) (w : World) (h : Bs w a cap l) (hn : a = none → cap = 0) :
    Calls Tryd.prog 18 #[.int .i64 k, .slice a l.length cap] w fun e w' => AnsB (addL k l) (sumE k l) e w' ∧ Nb w w' := by
  have hL := h.len
  have H := Lib.hid h
  cases hm : moreOk k (startK k) l with
  | false =>
    have hs := sumN_bad hm
    have ha : addL k l = [] := by simp [addL, hm]
    have h1 := refsum_u k a cap l w h
    rw [hs.1, hs.2] at h1
    rw [ha, hs.2]
    have H1 := Lib.hid h1
    clear h hm hs ha h1
    go_enter Tryd.func18, Tryd.ntmps18
    go_wp2_with fail
    refine H1.out.mono ?_
    rintro e w1 ⟨rfl, hnb⟩
    go_wp2
    go_ret2
    exact ⟨⟨none, 0, rfl, Bs.nil _⟩, hnb⟩
  | true =>
    obtain ⟨hz, _, hc⟩ := moreOk_parts hm
    obtain ⟨n1, n2, n3, _, n5⟩ := kindOk k hz
    have hs := sumN_ok hm
    have ha : addL k l = l ++ bitsN (runC (szK k) (polyK k) (startK k) l) (szK k) := by simp [addL, hm]
    have h1 := refsum_u k a cap l w h
    rw [hs.1, hs.2] at h1
    rw [ha, hs.2]
    have hS := runC_lt n3 l _ n5
    generalize runC (szK k) (polyK k) (startK k) l = S at *
    have h64 : (2 : Nat) ^ szK k ≤ 4294967296 := Nat.pow_le_pow_right (by omega) n2
    have H1 := Lib.hid h1
    have hS64 : S < 18446744073709551616 := by omega
    have hl := chk_len hc
    have hbl := bitsN_length S (szK k)
    clear h hm hs ha h1 hS hc n3 n5 h64
    go_enter Tryd.func18, Tryd.ntmps18
    go_wp2_with fail
    refine H1.out.mono ?_
    rintro e w1 ⟨rfl, hnb⟩
    go_wp2_with fail
    refine (of_any k _).mono ?_
    rintro e w2 ⟨rfl, rfl⟩
    go_wp2_with (at_builtin; refine wpList_appB _ rfl (.tmp 26) (.tmp 27) rfl _ [] rfl (OwnB.fresh0 _) a cap l l.length rfl rfl (H.out.below (hnb.al _)) (by intro h; subst h; exact ⟨by rw [H.out.none_len]; rfl, hn rfl⟩) (by simp; omega) ?_)
    intro v1 w2 ho1 hk1 hf1
    have fr1 : ∀ g, v1.ownBlock = some g → w.heap.size ≤ g := fun g hg => by
      rcases hf1 g hg with h | h
      · simp [Value.ownBlock] at h
        have := hnb.size
        omega
      · have := hnb.size
        omega
    have hnb2 : Nb w w2 := (hnb.al _).trans (hk1.toBelow (Nat.le_trans hnb.size (by simp)) (by intro g hg; simp [Value.ownBlock] at hg; have := hnb.size; omega))
    have HO := Lib.hid ho1
    clear ho1 hk1 hf1 hnb
    go_wp2_with fail
    refine (refbits_any S (szK k) _ hS64 (by omega)).mono ?_
    rintro e w3 ⟨⟨a3, c3, rfl, hb3⟩, hnb3⟩
    have ho2 := HO.out.keep (F := fun _ => False) (Kp.ofNb hnb3) (by simp)
    have hsz3 : a3 = none → szK k = 0 ∧ c3 = 0 := by
      rintro rfl
      exact absurd (by rw [← hbl, hb3.none_len]; rfl : szK k = 0) hz
    go_wp2_with (at_builtin; refine wpList_appB _ rfl (.tmp 28) (.tmp 31) rfl _ l rfl ho2 a3 c3 (bitsN S (szK k)) (szK k) hbl.symm rfl hb3 hsz3 (by omega) ?_)
    intro v2 w4 ho4 hk4 hf4
    obtain ⟨a4, c4, rfl, hb4, _⟩ := ho4.bs
    have hnb4 : Nb w w4 := (hnb2.tr hnb3).trans (hk4.toBelow (hnb2.tr hnb3).size fr1)
    have HB := Lib.hid hb4
    clear ho4 hk4 hf4 hb4 ho2 hnb2 hnb3 hb3
    go_wp2
    go_ret2
    exact ⟨⟨a4, c4, rfl, HB.out⟩, hnb4⟩

set_option maxHeartbeats 1600000 in
set_option maxRecDepth 100000 in
theorem reffits_u (k : Int) (a : Option Addr) (cap : Nat) (l : List Nat) (w : World) (h : Bs w a cap l) (hn : a = none → cap = 0) :
    Calls Tryd.prog 21 #[.int .i64 k, .slice a l.length cap] w fun e w' => e = .returned (.bool (fitsB k l)) ∧ Nb w w' := by
  have hL := h.len
  have hcap := h.hcap
  have hmax := h.hmax
  unfold maxLen at hmax
  have H := Lib.hid h
  by_cases hz : szK k = 0
  · have hf : fitsB k l = false := by simp [fitsB, hz]
    rw [hf]
    clear h hf
    go_enter Tryd.func21, Tryd.ntmps21
    go_wp2_with fail
    refine (of_any k _).mono ?_
    rintro e w1 ⟨rfl, rfl⟩
    go_wp2
    go_ret
    exact ⟨rfl, Nb.rfl⟩
  have hz2 : ((szK k : Int) == 0) = false := by rw [beq_eq_false_iff_ne]; omega
  obtain ⟨n1, n2, n3, _, n5⟩ := kindOk k hz
  by_cases hlen : l.length < szK k
  · have hf : fitsB k l = false := by simp [fitsB]; omega
    rw [hf]
    clear h hf n3 n5
    go_enter Tryd.func21, Tryd.ntmps21
    go_wp2_with fail
    refine (of_any k _).mono ?_
    rintro e w1 ⟨rfl, rfl⟩
    go_wp2
    go_ret
    exact ⟨rfl, Nb.rfl⟩
  have hge : szK k ≤ l.length := by omega
  cases hc : chk l with
  | false =>
    have hf : fitsB k l = false := by simp [fitsB, hc]
    rw [hf]
    have HC := Lib.hid hc
    clear h hf hc n3 n5
    go_enter Tryd.func21, Tryd.ntmps21
    go_wp2_with fail
    refine (of_any k _).mono ?_
    rintro e w1 ⟨rfl, rfl⟩
    go_wp2_with fail
    refine (refcheck_bad a cap l _ H.out HC.out).mono ?_
    rintro e w2 ⟨rfl, rfl⟩
    go_wp2
    go_ret
    exact ⟨rfl, Nb.rfl⟩
  | true =>
    have HC := Lib.hid hc
    have hlt := chk_len hc
    obtain ⟨m, hm⟩ : ∃ m, m = l.length - szK k := ⟨_, rfl⟩
    have hm1 : (l.length : Int) - (szK k : Int) = (m : Int) := by omega
    obtain ⟨b, o, rfl, _⟩ := h.hcells (by omega)
    have hlT : (l.take m).length = m := by rw [List.length_take]; omega
    have hlD : (l.drop m).length = szK k := by rw [List.length_drop]; omega
    have hcT : chk (l.take m) = true := chk_sub hc (fun x hx => List.mem_of_mem_take hx) (by omega)
    have hcD := chk_sub hc (m := l.drop m) (fun x hx => List.mem_of_mem_drop hx) (by omega)
    have hS := sumN_ok (moreOk_start hz hcT)
    have hf : fitsB k l = decide (numN (l.drop m) = runC (szK k) (polyK k) (startK k) (l.take m)) := by simp [fitsB, hz, hge, hc, ← hm]
    rw [hf]
    have h1 := fun w' hb' => refsum_u k (some ⟨b, o, none⟩) cap (l.take m) w' hb'
    have h2 := fun w' hb' => num_any (some ⟨b, o + m, none⟩) (cap - m) (l.drop m) w' hb' (chk_bit hcD) (by omega)
    rw [hS.1, hS.2, hlT] at h1
    rw [hlD] at h2
    have HT := Lib.hid (h.head m)
    have HD := Lib.hid (h.tail m (by omega))
    have H1 := Lib.hid h1
    have H2 := Lib.hid h2
    generalize runC (szK k) (polyK k) (startK k) (l.take m) = S at *
    generalize numN (l.drop m) = T at *
    have hm2 : (m : Int) ≤ (l.length : Int) := by omega
    have hm3 : (l.length : Int) - (m : Int) = (szK k : Int) := by omega
    have hm4 : l.length - m = szK k := by omega
    clear h hf hc h1 h2 hS hcT hcD hlT hlD hm n5
    go_enter Tryd.func21, Tryd.ntmps21
    go_wp2_with fail
    refine (of_any k _).mono ?_
    rintro e w1 ⟨rfl, rfl⟩
    go_wp2_with fail
    refine (refcheck_ok (some ⟨b, o, none⟩) cap l _ H.out HC.out).mono ?_
    rintro e w2 ⟨rfl, rfl⟩
    go_wp2_with fail
    refine (H1.out _ HT.out).mono ?_
    rintro e w3 ⟨rfl, hnb3⟩
    go_wp2_with fail
    refine (H2.out _ (HD.out.below hnb3)).mono ?_
    rintro e w4 ⟨rfl, rfl⟩
    go_wp2
    go_ret
    exact ⟨congrArg (fun x => Ending.returned (Value.bool x)) (beq_nat T S), hnb3⟩
end Go.Proofs.YtmfahnfmahahjaaDoor
