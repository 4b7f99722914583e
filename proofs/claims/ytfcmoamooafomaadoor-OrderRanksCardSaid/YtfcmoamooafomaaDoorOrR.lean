
/- The program's First and Rank of some frames. Condition: at most a thousand frames; the table of longer sizes holds what the program's text lays there. -/
import Derived.Test.YtfcmoamooafomaaDoorOrQ
import Derived.Test.YtfcmoamooafomaaDoorOwnN
namespace Go.Proofs.YtfcmoamooafomaaDoor
set_option linter.unusedVariables false
set_option linter.unusedSimpArgs false
open Go.RowKit

def rankV (fs : List (Hd × List Nat)) : List Nat := if allOk fs then rk (keysV fs) else []
def rankE (fs : List (Hd × List Nat)) : Nat := if allOk fs then 0 else 2
def firstV (fs : List (Hd × List Nat)) : Nat := (rankV fs).getD 0 0
def firstE (fs : List (Hd × List Nat)) : Nat := if allOk fs then (if fs.length = 0 then 9 else 0) else 2
theorem top_of {ks : List Nat} {l : List (Nat × Nat)} (hp : l.Perm (prs ks)) (hh : HpF l l.length 0) (h0 : 0 < l.length) : l.getD 0 d0 = (rkP ks).getD 0 d0 ∧ ∀ q ∈ l, leP (l.getD 0 d0) q := by
  have hmin : ∀ q ∈ l, leP (l.getD 0 d0) q := by
    intro q hq
    obtain ⟨j, hj, rfl⟩ := List.getElem_of_mem hq
    have := hh.min j hj
    simpa [List.getD, hj] using this
  refine ⟨?_, hmin⟩
  have hr := (rkP_perm ks).trans hp.symm
  have hs := rkP_sorted ks
  cases h : rkP ks with
  | nil =>
    rw [h] at hr
    have := hr.length_eq
    simp at this
    omega
  | cons x t =>
    rw [h] at hr hs
    have e : (x :: t).getD 0 d0 = x := rfl
    rw [e]
    have h1 := hmin x (hr.mem_iff.1 (by simp))
    have hm : l.getD 0 d0 ∈ l := by
      have : l.getD 0 d0 = l[0] := by simp [List.getD, h0]
      rw [this]
      exact List.getElem_mem h0
    have h2 : l.getD 0 d0 ∈ x :: t := hr.mem_iff.2 hm
    rcases List.mem_cons.1 h2 with h3 | h3
    · exact h3
    · exact leP_anti h1 ((List.pairwise_cons.1 hs).1 _ h3)
theorem top_rk {ks : List Nat} {l : List (Nat × Nat)} (hp : l.Perm (prs ks)) (hh : HpF l l.length 0) (h0 : 0 < l.length) : (l.getD 0 d0).2 = (rk ks).getD 0 0 := by
  rw [(top_of hp hh h0).1, rk]
  simp only [List.getD, List.getElem?_map]
  cases (rkP ks)[0]? <;> rfl

set_option maxHeartbeats 1600000 in
set_option maxRecDepth 100000 in
theorem first10_any (a : Option Addr) (cap : Nat) (fs : List (Hd × List Nat)) (w : World) (h : FrsAt w a cap fs) (hn : fs.length ≤ 1000) (hl : Longer w) :
    Calls Tryd.prog 16 #[.slice a fs.length cap] w fun e w' => e = .returned (.tuple #[.int .i64 (firstV fs : Nat), .int .i64 (firstE fs : Nat)]) ∧ Nb w w' := by
  have HP := Lib.hid (placesOf_any a cap fs w h hn hl)
  have hL := h.len
  clear h hl
  unfold firstE firstV rankV
  cases hok : allOk fs with
  | false =>
    simp only [Bool.false_eq_true, if_false]
    have e0 : ([] : List Nat).getD 0 0 = 0 := rfl
    rw [e0]
    unfold PlsV at HP
    simp only [hok, Bool.false_eq_true, if_false] at HP
    clear hok e0
    go_enter Tryd.func16, Tryd.ntmps16
    go_wp2_with fail
    refine HP.out.mono ?_
    rintro e w1 ⟨rfl, n1⟩
    have N1 := Lib.hid n1
    clear n1
    go_wp2
    go_ret2
    exact ⟨rfl, N1.out⟩
  | true =>
    simp only [if_true]
    unfold PlsV at HP
    simp only [hok, if_true] at HP
    clear hok
    generalize hrv : (rk (keysV fs)).getD 0 0 = rv
    have HRV := Lib.hid hrv
    clear hrv
    by_cases h0 : fs.length = 0
    · rw [if_pos h0]
      have hz : rv = 0 := by
        rw [← HRV.out]
        have : rk (keysV fs) = [] := List.length_eq_zero_iff.1 (by rw [rk_len, keysV_len, h0])
        rw [this]; rfl
      subst hz
      have HZ := Lib.hid h0
      clear h0
      go_enter Tryd.func16, Tryd.ntmps16
      go_wp2_with fail
      refine HP.out.mono ?_
      rintro e w1 ⟨⟨R, G, b, c, l, rfl, p1, q1, h1, hR, hG⟩, n1⟩
      have N1 := Lib.hid n1
      have hll : l.length = 0 := by rw [q1.length_eq, prs, List.length_zipIdx, keysV_len]; exact HZ.out
      have PL := Lib.hid (plen_any R G b c l w1 p1)
      rw [hll] at PL
      clear n1 p1 q1 h1 hR hG hll
      go_wp2_with fail
      refine PL.out.mono ?_
      rintro e w2 ⟨rfl, rfl⟩
      go_wp2
      go_ret2
      exact ⟨rfl, N1.out⟩
    · rw [if_neg h0]
      have HZ := Lib.hid h0
      clear h0
      go_enter Tryd.func16, Tryd.ntmps16
      go_wp2_with fail
      refine HP.out.mono ?_
      rintro e w1 ⟨⟨R, G, b, c, l, rfl, p1, q1, h1, hR, hG⟩, n1⟩
      have N1 := Lib.hid n1
      have hll : l.length = fs.length := by rw [q1.length_eq, prs, List.length_zipIdx, keysV_len]
      have hpos : 0 < l.length := by have := HZ.out; omega
      obtain ⟨n, hn1⟩ : ∃ n, l.length = n + 1 := ⟨l.length - 1, by omega⟩
      have PL := Lib.hid (plen_any R G b c l w1 p1)
      have TK := Lib.hid (take10_any R G b c l n w1 p1 hn1 (by omega) h1)
      rw [top_rk q1 h1 hpos, HRV.out] at TK
      rw [hn1] at PL
      have d0' : (((n + 1 : Nat) : Int) == 0) = false := by rw [beq_eq_false_iff_ne]; omega
      have HR := Lib.hid hR
      have HG := Lib.hid hG
      clear n1 p1 q1 h1 hR hG hll hpos hn1
      go_wp2_with fail
      refine PL.out.mono ?_
      rintro e w2 ⟨rfl, rfl⟩
      go_wp2_with fail
      refine TK.out.mono ?_
      rintro e w3 ⟨rfl, l', tk⟩
      have N3 := Lib.hid (N1.out.trans (tk.kp.toBelow N1.out.size (fun g hg => by have := HR.out; have := HG.out; omega)))
      clear tk
      go_wp2
      go_ret2
      exact ⟨rfl, N3.out⟩

set_option maxHeartbeats 1600000 in
set_option maxRecDepth 100000 in
theorem rank10_any (a : Option Addr) (cap : Nat) (fs : List (Hd × List Nat)) (w : World) (h : FrsAt w a cap fs) (hn : fs.length ≤ 1000) (hl : Longer w) :
    Calls Tryd.prog 14 #[.slice a fs.length cap] w fun e w' => AnsN w (rankV fs) (rankE fs) e w' ∧ Nb w w' := by
  have HP := Lib.hid (placesOf_any a cap fs w h hn hl)
  have hL := h.len
  clear h hl
  unfold rankE rankV
  cases hok : allOk fs with
  | false =>
    simp only [Bool.false_eq_true, if_false]
    unfold PlsV at HP
    simp only [hok, Bool.false_eq_true, if_false] at HP
    clear hok
    go_enter Tryd.func14, Tryd.ntmps14
    go_wp2_with fail
    refine HP.out.mono ?_
    rintro e w1 ⟨rfl, n1⟩
    have N1 := Lib.hid n1
    clear n1
    go_wp2
    go_ret2
    exact ⟨⟨_, rfl, OwnN.nil _, by simp [Value.ownBlock]⟩, N1.out⟩
  | true =>
    simp only [if_true]
    unfold PlsV at HP
    simp only [hok, if_true] at HP
    clear hok
    have hkl := keysV_len fs
    generalize keysV fs = ks at *
    go_enter Tryd.func14, Tryd.ntmps14
    go_wp2_with fail
    refine HP.out.mono ?_
    rintro e w1 ⟨⟨R, G, b, c, l, rfl, p1, q1, h1, hR, hG⟩, n1⟩
    have N1 := Lib.hid n1
    have hll : l.length = fs.length := by rw [q1.length_eq, prs, List.length_zipIdx, hkl]
    have P1 := Lib.hid p1
    have Q1 := Lib.hid q1
    have H1 := Lib.hid h1
    have HR := Lib.hid hR
    have HG := Lib.hid hG
    have HKL := Lib.hid hkl
    have HLL := Lib.hid hll
    clear n1 p1 q1 h1 hR hG hkl hll
    go_wp2
    go_loopw [6] (fun v wr => ∃ (done rest : List (Nat × Nat)), PlAt wr R G b c rest ∧ HpF rest rest.length 0 ∧ (0 < rest.length → G < wr.heap.size) ∧ Hid ((done ++ rest).Perm (prs ks) ∧ done.Pairwise leP ∧ ∀ p ∈ done, ∀ q ∈ rest, leP p q) ∧ OwnN wr v (done.map (·.2)) ∧ (∀ g, v.ownBlock = some g → w.heap.size ≤ g ∧ g ≠ G ∧ g ≠ R) ∧ Nb w wr) (fun v _ => fs.length - lenS v)
    case atStart => exact ⟨[], l, P1.out, H1.out, fun h0 => (P1.out.rows h0).2.lt, Lib.hid ⟨by simpa using Q1.out, by simp, by simp⟩, OwnN.nil _, by simp [Value.ownBlock], N1.out⟩
    case round =>
      obtain ⟨done, rest, hp, hh, hgl, hz, ho, hv, hnb⟩ := hrel
      have hlen : done.length + rest.length = fs.length := by
        have := hz.out.1.length_eq
        rw [List.length_append, prs, List.length_zipIdx, HKL.out] at this
        exact this
      obtain ⟨va, vc, hve, hva, _, _⟩ := ho.shape
      rw [List.length_map] at hve
      subst hve
      have HO := Lib.hid ho
      have HV := Lib.hid hv
      have HN := Lib.hid hnb
      have HZ := Lib.hid hz
      have HPl := Lib.hid hp
      have HGl := Lib.hid hgl
      have PL := Lib.hid (plen_any R G b c rest wr hp)
      by_cases h0 : rest.length = 0
      · have hr : rest = [] := List.length_eq_zero_iff.1 h0
        have hd := rk_head HZ.out.out.1 HZ.out.out.2.1 HZ.out.out.2.2 hr
        have HD := Lib.hid hd
        rw [h0] at PL
        clear ho hv hnb hz hp hgl hh hr hd h0 hva
        go_wp2_with fail
        refine PL.out.mono ?_
        rintro e w2 ⟨rfl, rfl⟩
        go_wp2
        go_ret2
        exact ⟨⟨_, rfl, by rw [rk, ← HD.out]; exact HO.out, fun g hg => (HV.out g hg).1⟩, HN.out⟩
      · obtain ⟨n, hn1⟩ : ∃ n, rest.length = n + 1 := ⟨rest.length - 1, by omega⟩
        have hG := hgl (by omega)
        have TK := Lib.hid (take10_any R G b c rest n wr hp hn1 (by omega) hh)
        have HM := Lib.hid (fun q hq => by
          obtain ⟨j, hj, rfl⟩ := List.getElem_of_mem (l := rest) (a := q) hq
          have := hh.min j hj
          rw [show rest.getD j d0 = rest[j] by simp [List.getD, hj]] at this
          exact this : ∀ q ∈ rest, leP (rest.getD 0 d0) q)
        rw [hn1] at PL
        have hRl := hp.blk.lt
        have hdl : done.length + (n + 1) = fs.length := by omega
        obtain ⟨p, hp0⟩ : ∃ p, p = rest.getD 0 d0 := ⟨_, rfl⟩
        rw [← hp0] at TK HM
        have HPE := Lib.hid hp0
        clear hp0
        clear ho hv hnb hz hp hgl hh h0 hva hlen
        go_wp2_with fail
        refine PL.out.mono ?_
        rintro e w2 ⟨rfl, rfl⟩
        go_wp2_with fail
        refine TK.out.mono ?_
        rintro e w3 ⟨rfl, l', tk⟩
        have T3 := Lib.hid tk
        have E3 := Lib.hid (show rest.Perm (p :: l') by rw [HPE.out]; exact tk.perm)
        have hG3 : G < w3.heap.size := by have := tk.kp.size; omega
        have hR3 : R < w3.heap.size := by have := tk.kp.size; omega
        have N3 := Lib.hid (HN.out.trans (tk.kp.toBelow HN.out.size (fun g hg => by have := HR.out; have := HG.out; omega)))
        have O3 := Lib.hid (HO.out.keep tk.kp (fun g hg hh => by have := HV.out g hg; omega))
        clear tk
        go_wp2_with (at_builtin; refine wpList_appN _ rfl (.tmp 18) (.tmp 21) rfl _ _ rfl (O3.out.nb (Nb.rfl.al _)) w3.heap.size p.2 rfl (by simp) (by rw [List.length_map]; omega) ?_)
        intro v4 w4 ho4 hk4 hf4
        have V4 := Lib.hid (show ∀ g, v4.ownBlock = some g → w.heap.size ≤ g ∧ g ≠ G ∧ g ≠ R from fun g hg => by
          rcases hf4 g hg with h | h
          · exact HV.out g h
          · have := N3.out.size
            first | omega | (simp at h; omega))
        have N4 := Lib.hid ((Nb.al N3.out _).trans (hk4.toBelow (Nat.le_trans N3.out.size (by simp)) (fun g hg => (HV.out g hg).1)))
        have hks : w3.heap.size < w4.heap.size := by have := hk4.size; simp at this; omega
        have P4 := Lib.hid ((T3.out.pl.nb (Nb.rfl.al _)).keep hk4 (fun hg => (HV.out R hg).2.2 rfl) (fun hg => (HV.out G hg).2.1 rfl))
        obtain ⟨va4, vc4, hve4, _, _, _⟩ := ho4.shape
        have hll4 : (done.map (·.2) ++ [p.2]).length = done.length + 1 := by simp
        rw [hll4] at hve4
        subst hve4
        have O4 := Lib.hid ho4
        clear ho4 hk4 hf4 hll4
        go_wp2
        go_roundw
        case rel =>
          obtain ⟨z1, z2, z3⟩ := take_next HZ.out.out.1 HZ.out.out.2.1 HZ.out.out.2.2 E3.out HM.out
          exact ⟨done ++ [p], l', P4.out, T3.out.heap, fun _ => by omega, Lib.hid ⟨z1, z2, z3⟩, by rw [List.map_append]; exact O4.out, V4.out, N4.out⟩
        case measure => simp [lenS]; omega
end Go.Proofs.YtfcmoamooafomaaDoor
