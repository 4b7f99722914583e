
/- The program's placesOf over package heaps: the heap of the places of some frames. Condition: at most a thousand frames; the table of longer sizes holds what the program's text lays there. -/
import Derived.Test.YtkofdbccdfpllaaDoorHoX
import Derived.Test.YtkofdbccdfpllaaDoorGor
import Derived.Test.YtkofdbccdfpllaaDoorGhh
namespace Go.Proofs.YtkofdbccdfpllaaDoor
set_option linter.unusedVariables false
set_option linter.unusedSimpArgs false
open Go.RowKit

def keysV (fs : List (Hd × List Nat)) : List Nat := fs.map fun p => keyF p.1
def allOk (fs : List (Hd × List Nat)) : Bool := fs.all fun p => okF p.1 p.2
theorem keysV_len (fs : List (Hd × List Nat)) : (keysV fs).length = fs.length := by simp [keysV]
theorem fs_take (fs : List (Hd × List Nat)) {k : Nat} (h : k < fs.length) : fs.take (k + 1) = fs.take k ++ [fs.getD k dF] := by
  rw [List.take_add_one]
  simp [List.getD, h]
theorem keysV_take (fs : List (Hd × List Nat)) {k : Nat} (h : k < fs.length) : keysV (fs.take (k + 1)) = keysV (fs.take k) ++ [keyF (fs.getD k dF).1] := by
  rw [fs_take fs h]
  simp only [keysV, List.map_append, List.map_cons, List.map_nil]
theorem allOk_take (fs : List (Hd × List Nat)) {k : Nat} (h : k < fs.length) : allOk (fs.take (k + 1)) = (allOk (fs.take k) && okF (fs.getD k dF).1 (fs.getD k dF).2) := by
  rw [fs_take fs h]
  simp only [allOk, List.all_append, List.all_cons, List.all_nil, Bool.and_true]
theorem allOk_bad {fs : List (Hd × List Nat)} {k : Nat} (h : k < fs.length) (hb : okF (fs.getD k dF).1 (fs.getD k dF).2 = false) : allOk fs = false := by
  rw [allOk, List.all_eq_false]
  refine ⟨fs[k], List.getElem_mem h, ?_⟩
  have e : fs.getD k dF = fs[k] := by simp [List.getD, h]
  rw [e] at hb
  simp [hb]

theorem HeQ.hpf {l : List (Nat × Nat)} (h : HeQ d0 id allQ l l.length) : HpF l l.length 0 := fun c h1 h2 _ => h c h1 h2 trivial

/-- What placesOf answers. -/
def PlsV (w : World) (fs : List (Hd × List Nat)) (e : Ending) (w' : World) : Prop :=
  if allOk fs then ∃ v l, e = .returned (.tuple #[.agg #[v, cmpHP], .int .i64 0]) ∧ OwnP w' v l ∧ l.Perm (prs (keysV fs)) ∧ HeQ d0 id allQ l l.length ∧ ∀ g, v.ownBlock = some g → w.heap.size ≤ g
  else e = .returned (.tuple #[.agg #[.slice none 0 0, .nilFunc], .int .i64 2])

set_option maxHeartbeats 800000 in
theorem newheapP_any (w : World) : Calls Tryd.prog 17 #[(.func (.func 18) #[] #[])] w fun e w' => e = .returned (.agg #[.slice none 0 0, (.func (.func 18) #[] #[])]) ∧ Nb w w' := by
  go_enter Tryd.func17, Tryd.ntmps17
  go_wp2
  refine bodyPost_ret (v := .agg #[.slice none 0 0, (.func (.func 18) #[] #[])]) (by simp [results, Tryd.results17, go_sem]) rfl ?_
  exact ⟨rfl, Nb.rfl.al _⟩

set_option maxHeartbeats 3200000 in
set_option maxRecDepth 100000 in
theorem placesOf_any (a : Option Addr) (cap : Nat) (fs : List (Hd × List Nat)) (w : World) (h : FrsAt w a cap fs) (hn : fs.length ≤ 1000) (hl : Longer w) :
    Calls Tryd.prog 12 #[.slice a fs.length cap] w fun e w' => PlsV w fs e w' ∧ Nb w w' := by
  have HF := Lib.hid h
  have HL := Lib.hid hl
  have hL := h.len
  have hcap := h.hcap
  clear h hl
  have HN := Lib.hid (fun w => newheapP_any w)
  obtain ⟨y, hy⟩ : ∃ y, y = w.alloc (.cells #[.slice none 0 0, .nilFunc] 43) := ⟨_, rfl⟩
  have YB := Lib.hid (show Blk y w.heap.size #[.slice none 0 0, .nilFunc] 43 by rw [hy]; exact Blk.new _ _ _)
  have NY := Lib.hid (show Nb w y by rw [hy]; exact Nb.rfl.al _)
  have HY := Lib.hid hy
  have SY := Lib.hid (show y.heap.size = w.heap.size + 1 by rw [hy, World.size_alloc])
  clear hy
  go_enter Tryd.func12, Tryd.ntmps12
  go_wp2_with fail
  rw [← HY.out]
  refine (HN.out _).mono ?_
  rintro e w1 ⟨rfl, n1⟩
  go_wp2
  obtain ⟨w0, hw0⟩ : ∃ w0, w0 = w1.alloc (.cells #[.slice none 0 0, .func (.func 18) #[] #[]] 43) := ⟨_, rfl⟩
  have n0 : Nb y w0 := by rw [hw0]; exact n1.al _
  have B0 := Lib.hid (show HeP w0 w1.heap.size (.slice none 0 0) [] from ⟨by rw [hw0]; exact Blk.new _ _ _, OwnP.nil _, by simp [Value.ownBlock]⟩)
  have HN0 := Lib.hid (NY.out.tr n0)
  have YB0 := Lib.hid (YB.out.nb n0)
  rw [← hw0]
  have hR1 : w.heap.size < w1.heap.size := by have := n1.size; have := SY.out; omega
  obtain ⟨R, hR⟩ : ∃ R, R = w1.heap.size := ⟨_, rfl⟩
  rw [← hR] at B0 hR1 ⊢
  have hRl := B0.out.blk.lt
  clear hR hw0 n0 n1 HN YB HY
  go_loopw [12] (fun ix wr => ∃ (k : Nat) (v : Value) (l : List (Nat × Nat)), k ≤ fs.length ∧ ix = .int .i64 k ∧ allOk (fs.take k) = true ∧ HeP wr R v l ∧ l.Perm (prs (keysV (fs.take k))) ∧ HeQ d0 id allQ l l.length ∧ (∀ g, v.ownBlock = some g → R < g) ∧ Nb w wr ∧ Blk wr w.heap.size #[.slice none 0 0, .nilFunc] 43) (fun ix _ => fs.length - (intOf ix).toNat)
  case atStart => exact ⟨0, .slice none 0 0, [], Nat.zero_le _, rfl, by simp [allOk], B0.out, List.Perm.refl _, fun c h1 h2 => by simp at h2, by simp [Value.ownBlock], HN0.out, YB0.out⟩
  case round =>
    obtain ⟨k, v, l0, hk, rfl, hok, hb, hp, hh, hv, hnb, hyb⟩ := hrel
    have HK := Lib.hid hok
    have HBl := Lib.hid hb
    have HP := Lib.hid hp
    have HH := Lib.hid hh
    have HV := Lib.hid hv
    have HN := Lib.hid hnb
    have YB := Lib.hid hyb
    have hll : l0.length = k := by rw [hp.length_eq, prs, List.length_zipIdx, keysV_len, List.length_take]; omega
    have HLl := Lib.hid hll
    clear hok hb hp hh hv hnb hyb hll
    by_cases hlt : k < fs.length
    · obtain ⟨b, o, rfl, hcc⟩ := HF.out.hcells (by omega)
      clear hcc
      have hat := fun K I X R B E S D V A l => (HF.out.below HN.out).at hlt (K := K) (I := I) (X := X) (R := R) (B := B) (E := E) (S := S) (D := D) (V := V) (A := A) (l := l)
      have HT := Lib.hid (keysV_take fs hlt)
      have HA := Lib.hid (allOk_take fs hlt)
      have HBad := Lib.hid (fun hb => allOk_bad (fs := fs) hlt hb)
      obtain ⟨⟨⟨K, I, X, RT, B, E, S, D, V, A⟩, l⟩, hf⟩ : ∃ p, p = fs.getD k dF := ⟨_, rfl⟩
      obtain ⟨a', c', ⟨c0, c1, c2, c3, c4, c5, c6, c7, c8, c9, c10⟩, hW, hKw, hBs, hnn⟩ := hat K I X RT B E S D V A l hf.symm
      rw [← hf] at HT HA HBad
      clear hat hf
      have KC0 := (fun w' (n : Nb wr w') => key_any ⟨K, I, X, RT, B, E, S, D, V, A⟩ a' c' l w' (hBs.below n) hW.1 ((HL.out.below HN.out).below n))
      unfold AnsK at KC0
      simp only [Hd.cs] at KC0
      have KC := Lib.hid KC0
      clear KC0
      have HLv := Lib.hid (keysV_len (fs.take k))
      have hlL := hBs.len
      clear hW hKw hBs hnn
      have hi : (k : Int) < (fs.length : Int) := by omega
      cases hcase : okF ⟨K, I, X, RT, B, E, S, D, V, A⟩ l with
      | false =>
        rw [show checkN ⟨K, I, X, RT, B, E, S, D, V, A⟩ l = 2 by simp [checkN, hcase]] at KC
        generalize keyV ⟨K, I, X, RT, B, E, S, D, V, A⟩ l = kv at KC
        have hbad := HBad.out hcase
        have HX := Lib.hid hbad
        clear hcase hbad HBad HA HT HK
        go_wp2_with fail
        refine (KC.out _ (Nb.rfl.al _)).mono ?_
        rintro e w1 ⟨rfl, n1⟩
        have N1 := Lib.hid (HN.out.tr ((Nb.rfl.al _).tr n1))
        have Y1 := Lib.hid (YB.out.nb ((Nb.rfl.al _).tr n1))
        clear n1 c0 c1 c2 c3 c4 c5 c6 c7 c8 c9 c10
        go_wp2_with (refine wpList_store_row (by rfl) _ _ _ (by rfl) _ _ (by rfl) (by rfl) _ _ Y1.out (by kernel_rfl) (by rfl) (by simp [Value.oneCell']) ?_)
        have hb := Blk.rowH Y1.out #[.slice none 0 0, .nilFunc]
        have kq := Kp.rowH w1 w.heap.size #[.slice none 0 0, .nilFunc]
        change bodyPost _ _ _ _ _ (World.setRow w1 w.heap.size #[.slice none 0 0, .nilFunc])
        generalize World.setRow w1 w.heap.size #[.slice none 0 0, .nilFunc] = WW at hb kq ⊢
        obtain ⟨e0, e1⟩ : WW.cell? ⟨w.heap.size, 0, none⟩ = some (.slice none 0 0) ∧ WW.cell? ⟨w.heap.size, 1, none⟩ = some .nilFunc := ⟨hb.cell 0, hb.cell 1⟩
        refine bodyPost_ret (v := .tuple #[.agg #[.slice none 0 0, .nilFunc], .int .i64 2]) (by simp [results, Tryd.results12, go_sem, e0, e1]) rfl ⟨?_, N1.out.trans (kq.toBelow N1.out.size (fun k hk => by omega))⟩
        unfold PlsV
        rw [if_neg (by rw [HX.out]; simp)]
      | true =>
        rw [show checkN ⟨K, I, X, RT, B, E, S, D, V, A⟩ l = 0 by simp [checkN, hcase], show keyV ⟨K, I, X, RT, B, E, S, D, V, A⟩ l = keyF ⟨K, I, X, RT, B, E, S, D, V, A⟩ by simp [keyV, hcase]] at KC
        have HA2 := Lib.hid (show allOk (fs.take (k + 1)) = true by rw [HA.out, HK.out]; simpa using hcase)
        simp only at HT
        generalize keyF ⟨K, I, X, RT, B, E, S, D, V, A⟩ = kf at KC HT
        clear hcase HBad HA HK
        have HT2 := Lib.hid (show prs (keysV (fs.take (k + 1))) = prs (keysV (fs.take k)) ++ [(kf, k)] by rw [HT.out, prs_snoc, HLv.out, List.length_take, Nat.min_eq_left (by omega)])
        have WP := Lib.hid (fun w' (n : Nb wr w') => wputP_any R v l0 (kf, k) w' (HBl.out.nb n) (by rw [HLl.out]; omega) HH.out)
        simp only [enP] at WP
        clear HT HLv
        go_wp2_with fail
        refine (KC.out _ (Nb.rfl.al _)).mono ?_
        rintro e w1 ⟨rfl, n1⟩
        have m1 : Nb wr w1 := (Nb.rfl.al _).tr n1
        have M1 := Lib.hid m1
        clear n1 m1 c0 c1 c2 c3 c4 c5 c6 c7 c8 c9 c10 KC
        go_wp2_with fail
        refine (WP.out _ M1.out).mono ?_
        rintro e w2 ⟨rfl, v2, l2, p2, q2, h2, g2, k2⟩
        have P2 := Lib.hid p2
        have Q2 := Lib.hid q2
        have H2 := Lib.hid h2
        have V2 := Lib.hid (show ∀ g, v2.ownBlock = some g → R < g from fun g hg => by
          rcases g2 g hg with h | h
          · exact HV.out g h
          · have := M1.out.size
            have := HBl.out.blk.lt
            omega)
        have N2 := Lib.hid ((HN.out.tr M1.out).trans (k2.toBelow (HN.out.tr M1.out).size (fun g hg => hg.elim (fun e => by omega) (fun e => by have := HV.out g e; omega))))
        have Y2 := Lib.hid ((YB.out.nb M1.out).keep k2 (fun e => e.elim (fun e => by omega) (fun e => by have := HV.out _ e; omega)))
        clear p2 q2 h2 g2 k2 WP
        go_wp2
        go_roundw
        case rel => exact ⟨k + 1, v2, l2, by omega, by go_num, HA2.out, P2.out, by rw [HT2.out]; exact Q2.out.trans (HP.out.append_right _), H2.out, V2.out, N2.out, Y2.out⟩
        case measure => simp [intOf]; omega
    · obtain rfl : k = fs.length := by omega
      rw [List.take_length] at HP HK
      obtain ⟨va, vc, rfl, _⟩ := HBl.out.own.shape
      have r0 := HBl.out.blk.cell 0
      have r1 := HBl.out.blk.cell 1
      simp only [List.getElem?_toArray, List.getElem?_cons_zero, List.getElem?_cons_succ, cmpHP] at r0 r1
      have hR1' := HBl.out.blk.lt
      go_wp2_with (refine wpList_store_row (by rfl) _ _ _ (by rfl) _ _ (by rfl) (by rfl) _ _ YB.out (by kernel_rfl) (by rfl) (by simp [Value.oneCell']) ?_)
      have hb := Blk.rowH YB.out #[.slice va l0.length vc, cmpHP]
      have kq := Kp.rowH wr w.heap.size #[.slice va l0.length vc, cmpHP]
      change bodyPost _ _ _ _ _ (World.setRow wr w.heap.size #[.slice va l0.length vc, cmpHP])
      generalize World.setRow wr w.heap.size #[.slice va l0.length vc, cmpHP] = WW at hb kq ⊢
      obtain ⟨e0, e1⟩ : WW.cell? ⟨w.heap.size, 0, none⟩ = some (.slice va l0.length vc) ∧ WW.cell? ⟨w.heap.size, 1, none⟩ = some cmpHP := ⟨hb.cell 0, hb.cell 1⟩
      refine bodyPost_ret (v := .tuple #[.agg #[.slice va l0.length vc, cmpHP], .int .i64 0]) (by simp [results, Tryd.results12, go_sem, e0, e1]) rfl ⟨?_, HN.out.trans (kq.toBelow HN.out.size (fun k hk => by omega))⟩
      unfold PlsV
      rw [if_pos HK.out]
      exact ⟨_, l0, rfl, HBl.out.own.keep kq (fun g e q => by have := HV.out g e; omega), HP.out, HH.out, fun g e => by have := HV.out g e; omega⟩
end Go.Proofs.YtkofdbccdfpllaaDoor
