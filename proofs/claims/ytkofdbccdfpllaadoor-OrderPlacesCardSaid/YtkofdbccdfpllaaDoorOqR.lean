
/- The program's First and Rank of some frames, over package heaps. Condition: at most a thousand frames; the table of longer sizes holds what the program's text lays there. -/
import Derived.Test.YtkofdbccdfpllaaDoorOqQ
import Derived.Test.YtkofdbccdfpllaaDoorGhh
namespace Go.Proofs.YtkofdbccdfpllaaDoor
set_option linter.unusedVariables false
set_option linter.unusedSimpArgs false
open Go.RowKit

def rankV (fs : List (Hd × List Nat)) : List Nat := if allOk fs then rk (keysV fs) else []
def rankE (fs : List (Hd × List Nat)) : Nat := if allOk fs then 0 else 2
def firstV (fs : List (Hd × List Nat)) : Nat := (rankV fs).getD 0 0
def firstE (fs : List (Hd × List Nat)) : Nat := if allOk fs then (if fs.length = 0 then 9 else 0) else 2
theorem top_of {ks : List Nat} {l : List (Nat × Nat)} (hp : l.Perm (prs ks)) (hh : HpF l l.length 0) (h0 : 0 < l.length) : l.getD 0 d0 = (rkP ks).getD 0 d0 ∧ ∀ q ∈ l, leP (l.getD 0 d0) q := by
  have hmin : ∀ q ∈ l, leP (l.getD 0 d0) q := by
    intro q hq
    obtain ⟨j, hj, rfl⟩ := List.getElem_of_mem hq
    have := hh.min j hj
    simpa [List.getD, hj] using this
  refine ⟨?_, hmin⟩
  have hr := (rkP_perm ks).trans hp.symm
  have hs := rkP_sorted ks
  cases h : rkP ks with
  | nil =>
    rw [h] at hr
    have := hr.length_eq
    simp at this
    omega
  | cons x t =>
    rw [h] at hr hs
    have e : (x :: t).getD 0 d0 = x := rfl
    rw [e]
    have h1 := hmin x (hr.mem_iff.1 (by simp))
    have hm : l.getD 0 d0 ∈ l := by
      have : l.getD 0 d0 = l[0] := by simp [List.getD, h0]
      rw [this]
      exact List.getElem_mem h0
    have h2 : l.getD 0 d0 ∈ x :: t := hr.mem_iff.2 hm
    rcases List.mem_cons.1 h2 with h3 | h3
    · exact h3
    · exact leP_anti h1 ((List.pairwise_cons.1 hs).1 _ h3)
theorem top_rk {ks : List Nat} {l : List (Nat × Nat)} (hp : l.Perm (prs ks)) (hh : HpF l l.length 0) (h0 : 0 < l.length) : (l.getD 0 d0).2 = (rk ks).getD 0 0 := by
  rw [(top_of hp hh h0).1, rk]
  simp only [List.getD, List.getElem?_map]
  cases (rkP ks)[0]? <;> rfl

/-- What is left while one is told: that one (if there is one) at hand, and those that wait. -/
structure RkJ (ks : List Nat) (done : List (Nat × Nat)) (b : Bool) (x : Nat × Nat) (rest : List (Nat × Nat)) : Prop where
  perm : (done ++ ((if b then [x] else []) ++ rest)).Perm (prs ks)
  sort : done.Pairwise leP
  low : ∀ p ∈ done, ∀ q ∈ (if b then [x] else []) ++ rest, leP p q
  hd : b = true → ∀ q ∈ [x] ++ rest, leP x q
  no : b = false → rest = []
theorem RkJ.next {ks : List Nat} {done rest rest' : List (Nat × Nat)} {x y : Nat × Nat} {b : Bool} (h : RkJ ks done true x rest) (ht : b = true → rest.Perm (y :: rest') ∧ ∀ q ∈ rest, leP y q) (hf : b = false → rest = [] ∧ rest' = []) : RkJ ks (done ++ [x]) b y rest' := by
  have hr : ((if b then [y] else []) ++ rest').Perm rest := by
    cases b with
    | true => exact (ht rfl).1.symm
    | false => rw [(hf rfl).1, (hf rfl).2]; exact List.Perm.refl _
  have hp : (done ++ [x] ++ ((if b then [y] else []) ++ rest')).Perm (prs ks) := by
    rw [List.append_assoc]
    exact ((hr.append_left [x]).append_left done).trans h.perm
  refine ⟨hp, ?_, fun p hp q hq => ?_, fun e q hq => ?_, fun e => (hf e).2⟩
  · rw [List.pairwise_append]
    exact ⟨h.sort, List.pairwise_singleton _ _, fun p hp q hq => by rw [List.mem_singleton.1 hq]; exact h.low p hp x (by simp)⟩
  · have hq2 := hr.mem_iff.1 hq
    rcases List.mem_append.1 hp with hp | hp
    · exact h.low p hp q (by simp only [if_true]; exact List.mem_append_right _ hq2)
    · rw [List.mem_singleton.1 hp]
      exact h.hd rfl q (List.mem_append_right _ hq2)
  · exact (ht e).2 q ((ht e).1.mem_iff.2 (by simpa using hq))
theorem RkJ.first {ks : List Nat} {l rest : List (Nat × Nat)} {x : Nat × Nat} {b : Bool} (hp : l.Perm (prs ks)) (ht : b = true → l.Perm (x :: rest) ∧ ∀ q ∈ l, leP x q) (hf : b = false → l = [] ∧ rest = []) : RkJ ks [] b x rest := by
  refine ⟨?_, List.Pairwise.nil, by simp, fun e q hq => (ht e).2 q ((ht e).1.mem_iff.2 (by simpa using hq)), fun e => (hf e).2⟩
  cases b with
  | true => exact ((ht rfl).1.symm.trans hp)
  | false => rw [(hf rfl).1] at hp; rw [(hf rfl).2]; exact hp
theorem RkJ.fin {ks : List Nat} {done rest : List (Nat × Nat)} {x : Nat × Nat} (h : RkJ ks done false x rest) : done = rkP ks := by
  have hp := h.perm
  rw [h.no rfl] at hp
  exact rkP_of (by simpa using hp) h.sort

/-- Take, whether one waits or not. -/
theorem takeB_any (R : Nat) (v : Value) (l : List (Nat × Nat)) (w : World) (h : HeP w R v l) (hl : l.length ≤ 1000) (hh : HeQ d0 id allQ l l.length) :
    Calls Tryd.prog 13 #[.pointer (some ⟨R, 0, none⟩)] w fun e w' => ∃ (x : Nat × Nat) (b : Bool) (v' : Value) (rest : List (Nat × Nat)), e = .returned (.tuple #[.agg #[.int .u64 (x.1 : Nat), .int .i64 (x.2 : Nat)], .bool b]) ∧ HeP w' R v' rest ∧ v'.ownBlock = v.ownBlock ∧ HeQ d0 id allQ rest rest.length ∧ rest.length ≤ l.length ∧ Kp (fun k => k = R ∨ v.ownBlock = some k) w w' ∧ (b = true → l.Perm (x :: rest) ∧ ∀ q ∈ l, leP x q) ∧ (b = false → l = [] ∧ rest = []) := by
  by_cases h0 : l.length = 0
  · have e0 := List.length_eq_zero_iff.1 h0
    subst e0
    refine (wtakeP_none R v w h).mono ?_
    rintro e w' ⟨rfl, n⟩
    exact ⟨(0, 0), false, v, [], rfl, h.nb n, Eq.refl _, hh, Nat.le_refl _, Kp.ofNb n, by simp, by simp⟩
  · obtain ⟨n, hn⟩ : ∃ n, l.length = n + 1 := ⟨l.length - 1, by omega⟩
    refine (wtakeP_some R v l n w h hn hl hh).mono ?_
    rintro e w' ⟨rfl, v', l', t⟩
    refine ⟨l.getD 0 d0, true, v', l', rfl, t.at', t.own, t.heap, by rw [t.len]; omega, t.kp, fun _ => ⟨t.perm, fun q hq => ?_⟩, by simp⟩
    obtain ⟨j, hj, rfl⟩ := List.getElem_of_mem hq
    have := hh.min d0 id j hj
    rw [show l.getD j d0 = l[j] by simp [List.getD, hj]] at this
    exact this

set_option maxHeartbeats 1600000 in
set_option maxRecDepth 100000 in
theorem first10_any (a : Option Addr) (cap : Nat) (fs : List (Hd × List Nat)) (w : World) (h : FrsAt w a cap fs) (hn : fs.length ≤ 1000) (hl : Longer w) :
    Calls Tryd.prog 8 #[.slice a fs.length cap] w fun e w' => e = .returned (.tuple #[.int .i64 (firstV fs : Nat), .int .i64 (firstE fs : Nat)]) ∧ Nb w w' := by
  have HP := Lib.hid (placesOf_any a cap fs w h hn hl)
  have hL := h.len
  clear h hl
  unfold firstE firstV rankV
  cases hok : allOk fs with
  | false =>
    simp only [Bool.false_eq_true, if_false]
    have e0 : ([] : List Nat).getD 0 0 = 0 := rfl
    rw [e0]
    unfold PlsV at HP
    simp only [hok, Bool.false_eq_true, if_false] at HP
    clear hok e0
    go_enter Tryd.func8, Tryd.ntmps8
    go_wp2_with fail
    refine HP.out.mono ?_
    rintro e w1 ⟨rfl, n1⟩
    have N1 := Lib.hid n1
    clear n1
    go_wp2
    go_ret2
    exact ⟨rfl, Nb.al N1.out _⟩
  | true =>
    simp only [if_true]
    unfold PlsV at HP
    simp only [hok, if_true, cmpHP] at HP
    clear hok
    have hkl := keysV_len fs
    generalize keysV fs = ks at *
    obtain ⟨rv, hrv⟩ : ∃ rv, (rk ks).getD 0 0 = rv := ⟨_, rfl⟩
    obtain ⟨ev, hev⟩ : ∃ ev, ev = (if fs.length = 0 then 9 else 0) := ⟨_, rfl⟩
    rw [hrv, ← hev]
    have HRV := Lib.hid hrv
    have HEV := Lib.hid hev
    clear hrv hev
    go_enter Tryd.func8, Tryd.ntmps8
    go_wp2_with fail
    refine HP.out.mono ?_
    rintro e w1 ⟨⟨v, l, rfl, o1, q1, h1, g1⟩, n1⟩
    have hll : l.length = fs.length := by rw [q1.length_eq, prs, List.length_zipIdx, hkl]
    obtain ⟨va, vc, rfl, _⟩ := o1.shape
    obtain ⟨y, hy⟩ : ∃ y, y = w1.alloc (.cells #[.slice va l.length vc, .func (.func 18) #[] #[]] 43) := ⟨_, rfl⟩
    have PY := Lib.hid (show HeP y w1.heap.size (.slice va l.length vc) l from ⟨by rw [hy]; exact Blk.new _ _ _, by rw [hy]; exact o1.nb (Nb.rfl.al _), fun e => by have := o1.lt e; omega⟩)
    have NY := Lib.hid (show Nb w y by rw [hy]; exact n1.al _)
    have HY := Lib.hid hy
    have G1 := Lib.hid g1
    have Q1 := Lib.hid q1
    have H1 := Lib.hid h1
    have HLL := Lib.hid hll
    have hR : w.heap.size ≤ w1.heap.size := n1.size
    have TK := Lib.hid (takeB_any w1.heap.size _ l y PY.out (by omega) h1)
    have HTOP := Lib.hid (fun h0 => top_rk q1 h1.hpf h0)
    clear hy n1 o1 g1 q1 h1 hkl hll
    go_wp2_with fail
    rw [← HY.out]
    refine TK.out.mono ?_
    rintro e w2 ⟨⟨xk, xn⟩, b, v2, rest, rfl, p2, o2, h2, l2, k2, t2, f2⟩
    have N2 := Lib.hid (show Nb w w2 from NY.out.trans (k2.toBelow NY.out.size (fun g hg => hg.elim (fun e => by omega) (fun e => G1.out g e))))
    cases b with
    | false =>
      obtain ⟨e0, -⟩ := f2 rfl
      have hz : fs.length = 0 := by rw [← HLL.out, e0]; rfl
      have hrv : (rk ks).getD 0 0 = 0 := by
        have := Q1.out.length_eq
        rw [e0, prs, List.length_zipIdx] at this
        rw [List.length_eq_zero_iff.1 (show (rk ks).length = 0 by rw [rk_len]; simpa using this.symm)]
        rfl
      have hv0 : rv = 0 := by rw [← HRV.out, hrv]
      have he0 : ev = 9 := by rw [HEV.out, if_pos hz]
      clear p2 o2 h2 l2 k2 t2 f2 e0 hz hrv HRV HEV
      subst hv0 he0
      go_wp2
      go_ret2
      exact ⟨rfl, Nb.al N2.out _⟩
    | true =>
      obtain ⟨tp, tm⟩ := t2 rfl
      have hpos : 0 < l.length := by rw [tp.length_eq]; simp
      have hz : ¬ fs.length = 0 := by rw [← HLL.out]; omega
      have hx : (rk ks).getD 0 0 = xn := by
        rw [← HTOP.out hpos]
        have h1 : leP (xk, xn) (l.getD 0 d0) := tm _ (by rw [show l.getD 0 d0 = l[0] by simp [List.getD, hpos]]; exact List.getElem_mem hpos)
        have h2 := (top_of Q1.out H1.out.hpf hpos).2 (xk, xn) (tp.mem_iff.2 (by simp))
        rw [leP_anti h2 h1]
      have hv0 : rv = xn := by rw [← HRV.out, hx]
      have he0 : ev = 0 := by rw [HEV.out, if_neg hz]
      clear p2 o2 h2 l2 k2 t2 f2 tp tm hpos hz hx HRV HEV
      subst hv0 he0
      go_wp2
      go_ret2
      exact ⟨rfl, Nb.al N2.out _⟩

set_option maxHeartbeats 3200000 in
set_option maxRecDepth 100000 in
theorem rank10_any (a : Option Addr) (cap : Nat) (fs : List (Hd × List Nat)) (w : World) (h : FrsAt w a cap fs) (hn : fs.length ≤ 1000) (hl : Longer w) :
    Calls Tryd.prog 6 #[.slice a fs.length cap] w fun e w' => AnsN w (rankV fs) (rankE fs) e w' ∧ Nb w w' := by
  have HP := Lib.hid (placesOf_any a cap fs w h hn hl)
  have hL := h.len
  clear h hl
  unfold rankE rankV
  cases hok : allOk fs with
  | false =>
    simp only [Bool.false_eq_true, if_false]
    unfold PlsV at HP
    simp only [hok, Bool.false_eq_true, if_false] at HP
    clear hok
    go_enter Tryd.func6, Tryd.ntmps6
    go_wp2_with fail
    refine HP.out.mono ?_
    rintro e w1 ⟨rfl, n1⟩
    have N1 := Lib.hid n1
    clear n1
    go_wp2
    go_ret2
    exact ⟨⟨_, rfl, OwnN.nil _, by simp [Value.ownBlock]⟩, Nb.al N1.out _⟩
  | true =>
    simp only [if_true]
    unfold PlsV at HP
    simp only [hok, if_true, cmpHP] at HP
    clear hok
    have hkl := keysV_len fs
    generalize keysV fs = ks at *
    go_enter Tryd.func6, Tryd.ntmps6
    go_wp2_with fail
    refine HP.out.mono ?_
    rintro e w1 ⟨⟨v, l, rfl, o1, q1, h1, g1⟩, n1⟩
    have hll : l.length = fs.length := by rw [q1.length_eq, prs, List.length_zipIdx, hkl]
    obtain ⟨va, vc, rfl, _⟩ := o1.shape
    obtain ⟨y, hy⟩ : ∃ y, y = w1.alloc (.cells #[.slice va l.length vc, .func (.func 18) #[] #[]] 43) := ⟨_, rfl⟩
    have PY := Lib.hid (show HeP y w1.heap.size (.slice va l.length vc) l from ⟨by rw [hy]; exact Blk.new _ _ _, by rw [hy]; exact o1.nb (Nb.rfl.al _), fun e => by have := o1.lt e; omega⟩)
    have NY := Lib.hid (show Nb w y by rw [hy]; exact n1.al _)
    have HY := Lib.hid hy
    have SY := Lib.hid (show y.heap.size = w1.heap.size + 1 by rw [hy, World.size_alloc])
    have hR : w.heap.size ≤ w1.heap.size := n1.size
    obtain ⟨o0, ho0⟩ : ∃ o0, o0 = Value.ownBlock (.slice va l.length vc) := ⟨_, rfl⟩
    have G0 := Lib.hid (show ∀ g, o0 = some g → w.heap.size ≤ g ∧ g < w1.heap.size from fun g e => by rw [ho0] at e; exact ⟨g1 g e, o1.lt e⟩)
    have Q1 := Lib.hid q1
    have HLL := Lib.hid hll
    have HKL := Lib.hid hkl
    have TK := Lib.hid (takeB_any w1.heap.size _ l y PY.out (by omega) h1)
    rw [← ho0] at TK
    clear hy n1 o1 g1 q1 h1 hkl hll
    go_wp2_with fail
    rw [← HY.out]
    refine TK.out.mono ?_
    rintro e w2 ⟨⟨xk, xn⟩, b, v2, rest, rfl, p2, o2, h2, l2, k2, t2, f2⟩
    have N2 := Lib.hid (show Nb w w2 from NY.out.trans (k2.toBelow NY.out.size (fun g hg => hg.elim (fun e => by omega) (fun e => (G0.out g e).1))))
    have K2 := Lib.hid (show w1.heap.size < w2.heap.size by have := k2.size; have := SY.out; omega)
    obtain ⟨w0, hw0⟩ : ∃ w0, w0 = w2.alloc (.cells #[.int .u64 (xk : Nat), .int .i64 (xn : Nat)] 48) := ⟨_, rfl⟩
    have B0 := Lib.hid (show Blk w0 w2.heap.size #[.int .u64 (xk : Nat), .int .i64 (xn : Nat)] 48 by rw [hw0]; exact Blk.new _ _ _)
    have n0 : Nb w2 w0 := by rw [hw0]; exact Nb.rfl.al _
    have P0 := Lib.hid (p2.nb n0)
    have N0 := Lib.hid (N2.out.tr n0)
    have J0 := Lib.hid (RkJ.first Q1.out t2 f2)
    have O2 := Lib.hid (show v2.ownBlock = o0 from o2)
    have H2 := Lib.hid h2
    have HW0 := Lib.hid hw0
    clear p2 o2 h2 l2 k2 t2 f2 n0 hw0 HY SY TK PY NY
    go_wp2
    rw [← HW0.out]
    clear HW0
    have hRl2 := K2.out
    generalize w1.heap.size = R at hR G0 hRl2 P0 ⊢
    generalize w2.heap.size = B1 at B0 hRl2 ⊢
    go_loopw [6, 7, 8] (fun s p o wr => ∃ (done : List (Nat × Nat)) (b : Bool) (x : Nat × Nat) (rest : List (Nat × Nat)) (v : Value) (B : Nat), p = .pointer (some ⟨B, 0, none⟩) ∧ o = .bool b ∧ Blk wr B #[.int .u64 (x.1 : Nat), .int .i64 (x.2 : Nat)] 48 ∧ HeP wr R v rest ∧ HeQ d0 id allQ rest rest.length ∧ v.ownBlock = o0 ∧ Hid (RkJ ks done b x rest) ∧ OwnN wr s (done.map (·.2)) ∧ (∀ g, s.ownBlock = some g → w.heap.size ≤ g ∧ g ≠ R ∧ o0 ≠ some g ∧ g ≠ B) ∧ B ≠ R ∧ o0 ≠ some B ∧ w.heap.size ≤ B ∧ Nb w wr) (fun s _ _ _ => fs.length - lenS s)
    case atStart => exact ⟨[], b, (xk, xn), rest, v2, B1, rfl, rfl, B0.out, P0.out, H2.out, O2.out, J0, OwnN.nil _, by simp [Value.ownBlock], by omega, fun e => by have := G0.out _ e; omega, by omega, N0.out⟩
    case round =>
      obtain ⟨done, b, ⟨xk, xn⟩, rest, v, B, rfl, rfl, hb, hp, hh, hv, hj, ho, hs, hBR, hoB, hwB, hnb⟩ := hrel
      obtain ⟨sa, sc, hse, _, _, _⟩ := ho.shape
      rw [List.length_map] at hse
      subst hse
      have HO := Lib.hid ho
      have HS := Lib.hid hs
      have HN := Lib.hid hnb
      have HB := Lib.hid hb
      have HPl := Lib.hid hp
      have HH := Lib.hid hh
      have HV := Lib.hid hv
      cases b with
      | false =>
        have HD := Lib.hid hj.out.fin
        clear ho hs hnb hb hp hh hv hj
        go_wp2
        go_ret2
        exact ⟨⟨_, rfl, by rw [rk, ← HD.out]; exact HO.out, fun g hg => (HS.out g hg).1⟩, HN.out⟩
      | true =>
        have hlen : done.length + (1 + rest.length) = fs.length := by
          have := hj.out.perm.length_eq
          rw [List.length_append, prs, List.length_zipIdx, HKL.out] at this
          simpa [Nat.add_comm] using this
        have hRl := hp.blk.lt
        have hBl := hb.lt
        have b1 := hb.cell 1
        have b0 := hb.cell 0
        simp only [List.getElem?_toArray, List.getElem?_cons_zero, List.getElem?_cons_succ] at b0 b1
        clear ho hs hnb hb hp hh hv
        go_wp2_with (at_builtin; refine wpList_appN _ rfl (.tmp 26) (.tmp 29) rfl _ _ rfl (HO.out.nb (Nb.rfl.al _)) wr.heap.size xn rfl (by simp) (by rw [List.length_map]; omega) ?_)
        intro v4 w4 ho4 hk4 hf4
        have V4 := Lib.hid (show ∀ g, v4.ownBlock = some g → w.heap.size ≤ g ∧ g ≠ R ∧ o0 ≠ some g ∧ g ≠ B from fun g hg => by
          rcases hf4 g hg with h | h
          · exact HS.out g h
          · have h3 : wr.heap.size ≤ g := by first | omega | (simp at h; omega)
            have h4 := HN.out.size
            exact ⟨by omega, by omega, fun e => by have := HPl.out.own.lt (HV.out.trans e); omega, by omega⟩)
        have N4 := Lib.hid (show Nb w w4 from (Nb.al HN.out _).trans (hk4.toBelow (Nat.le_trans HN.out.size (by simp)) (fun g hg => (HS.out g hg).1)))
        have hks : wr.heap.size < w4.heap.size := by have := hk4.size; simp at this; omega
        have P4 := Lib.hid ((HPl.out.nb (Nb.rfl.al _)).keep hk4 (fun hg => (HS.out R hg).2.1 rfl) (fun g hg h => (HS.out g h).2.2.1 (HV.out.symm.trans hg)))
        have B4 := Lib.hid ((HB.out.nb (Nb.rfl.al _)).keep hk4 (fun hg => (HS.out B hg).2.2.2 rfl))
        obtain ⟨va4, vc4, hve4, _, _, _⟩ := ho4.shape
        have hll4 : (done.map (·.2) ++ [xn]).length = done.length + 1 := by simp
        rw [hll4] at hve4
        subst hve4
        have O4 := Lib.hid ho4
        clear ho4 hk4 hf4 hll4 b0 b1
        have b1 := B4.out.cell 1
        have b0 := B4.out.cell 0
        simp only [List.getElem?_toArray, List.getElem?_cons_zero, List.getElem?_cons_succ] at b0 b1
        obtain ⟨y, hy⟩ : ∃ y, y = w4.alloc (.cells #[.int .u64 (xk : Nat), .int .i64 (xn : Nat)] 48) := ⟨_, rfl⟩
        have ny : Nb w4 y := by rw [hy]; exact Nb.rfl.al _
        have BY := Lib.hid (show Blk y w4.heap.size #[.int .u64 (xk : Nat), .int .i64 (xn : Nat)] 48 by rw [hy]; exact Blk.new _ _ _)
        have PY := Lib.hid (P4.out.nb ny)
        have NY := Lib.hid ny
        have HY := Lib.hid hy
        have TK := Lib.hid (takeB_any R v rest y PY.out (by omega) HH.out)
        rw [HV.out] at TK
        clear hy ny
        go_wp2_with fail
        rw [← HY.out]
        refine TK.out.mono ?_
        rintro e w5 ⟨⟨yk, yn⟩, b, v5, rest5, rfl, p5, o5, h5, l5, k5, t5, f5⟩
        have hsz := hj.out
        have J5 := Lib.hid (hj.out.next t5 f5)
        have hRB : R < w4.heap.size := P4.out.blk.lt
        have hG4 : ∀ g, o0 = some g → g < w4.heap.size := fun g e => P4.out.own.lt (HV.out.trans e)
        have B5 := Lib.hid (BY.out.keep k5 (fun e => e.elim (fun e => by omega) (fun e => by have := hG4 _ e; omega)))
        have N5 := Lib.hid (show Nb w w5 from (N4.out.tr NY.out).trans (k5.toBelow (N4.out.tr NY.out).size (fun g hg => hg.elim (fun e => by have := HN.out; omega) (fun e => (G0.out g e).1))))
        have O5 := Lib.hid ((O4.out.nb NY.out).keep k5 (fun g hg e => e.elim (fun e => (V4.out g hg).2.1 e) (fun e => (V4.out g hg).2.2.1 e)))
        have P5 := Lib.hid p5
        have H5 := Lib.hid h5
        have E5 := Lib.hid (show v5.ownBlock = o0 from o5)
        clear p5 o5 h5 l5 k5 t5 f5 hsz hj b0 b1
        go_wp2_with (refine wpList_store_row (by rfl) _ _ _ (by rfl) _ _ (by rfl) (by rfl) _ _ B5.out (by kernel_rfl) (by rfl) (by simp [Value.oneCell']) ?_)
        have hb := Blk.rowH B5.out #[.int .u64 (yk : Nat), .int .i64 (yn : Nat)]
        have kq := Kp.rowH w5 w4.heap.size #[.int .u64 (yk : Nat), .int .i64 (yn : Nat)]
        have WX : ∃ WX, WX = World.setRow w5 w4.heap.size #[.int .u64 (yk : Nat), .int .i64 (yn : Nat)] := ⟨_, rfl⟩
        obtain ⟨WX, hWX⟩ := WX
        rw [← hWX] at hb kq
        have HWX := Lib.hid hWX
        have HB6 := Lib.hid hb
        have KQ := Lib.hid kq
        have hw4 := N4.out.size
        clear hb kq hWX
        go_wp2
        go_roundw
        case rel =>
          rw [show World.setRow w5 w4.heap.size #[.int .u64 (yk : Nat), .int .i64 (yn : Nat)] = WX from HWX.out.symm]
          exact ⟨done ++ [(xk, xn)], b, (yk, yn), rest5, v5, w4.heap.size, rfl, rfl, HB6.out, P5.out.keep KQ.out (fun e => by omega) (fun g hg e => by have := hG4 g (E5.out.symm.trans hg); omega), H5.out, E5.out, J5, by rw [List.map_append]; exact O5.out.keep KQ.out (fun g hg e => by have := O4.out.lt hg; omega), fun g hg => ⟨(V4.out g hg).1, (V4.out g hg).2.1, (V4.out g hg).2.2.1, by have := O4.out.lt hg; omega⟩, by omega, fun e => by have := hG4 _ e; omega, by omega, N5.out.trans (KQ.out.toBelow N5.out.size (fun g e => by omega))⟩
        case measure => simp [lenS]; omega
end Go.Proofs.YtkofdbccdfpllaaDoor
