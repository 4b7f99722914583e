
/- The landed package fault: After. Condition: the events can be read. -/
import Derived.Test.YtahemoakehbchaaFaF
import Derived.Test.YtahemoakehbchaaInI
namespace Go.Proofs.Ytahemoakehbchaa
set_option linter.unusedVariables false
set_option linter.unusedSimpArgs false
open Go.RowKit

theorem nx_good {s : Fa} (h : okFa s = true) {e : Int} (he : evOk e = true) : nxFa s e = doFa s e ∧ nxE s e = 0 := by
  unfold nxFa nxE
  rw [h, he]
  exact ⟨rfl, rfl⟩
theorem nx_bad {s : Fa} {e : Int} (he : evOk e = false) : nxFa s e = Fa.zero ∧ nxE s e = 2 := by
  unfold nxFa nxE
  rw [he, Bool.and_false]
  exact ⟨rfl, rfl⟩
theorem all_take_succ {l : List Int} {k : Nat} (hk : k < l.length) : (l.take (k + 1)).all evOk = ((l.take k).all evOk && evOk (l.getD k 0)) := by
  rw [List.take_add_one, List.all_append]
  simp [List.getD, hk]
theorem fold_take_succ {s : Fa} {l : List Int} {k : Nat} (hk : k < l.length) : (l.take (k + 1)).foldl doFa s = doFa ((l.take k).foldl doFa s) (l.getD k 0) := by
  rw [List.take_add_one, List.foldl_append]
  simp [List.getD, hk]
theorem all_false_of {l : List Int} {k : Nat} (hk : k < l.length) (h : evOk (l.getD k 0) = false) : l.all evOk = false := by
  rw [List.all_eq_false]
  refine ⟨l[k], List.getElem_mem hk, ?_⟩
  rw [show l.getD k 0 = l[k] by simp [List.getD, hk]] at h
  simp [h]

set_option maxHeartbeats 2000000 in
set_option maxRecDepth 100000 in
theorem fafter11_any (s : Fa) (a : Option Addr) (cap : Nat) (l : List Int) (w : World) (h : Is w a cap l) :
    Calls Try.prog 15 #[.agg s.cs, .slice a l.length cap] w fun en w' => en = .returned (.tuple #[.agg (afFa s l).cs, .int .i64 (afE s l : Nat)]) ∧ Nb w w' := by
  have HC := Lib.hid (fun w' => fchk11_any s w')
  have HZ0 := Lib.hid (Blk.new (w.alloc (.cells s.cs 25)) #[.int .i64 0, .int .i64 0, .bool false] 25)
  have HQ0 := Lib.hid (Blk.new w s.cs 25)
  have HL := Lib.hid h
  have hlen := h.len
  clear h
  cases hok : okFa s with
  | false =>
    rw [show errFa s = 2 by simp [errFa, hok]] at HC
    rw [show afFa s l = Fa.zero by simp [afFa, hok], show afE s l = 2 by simp [afE, hok]]
    clear hok HL
    obtain ⟨T, R, O⟩ := s
    simp only [Fa.cs, Fa.zero] at HC HZ0 HQ0 ⊢
    go_enter Try.func15, Try.ntmps15
    go_wp2_with fail
    refine (HC.out _).mono ?_
    rintro en w1 ⟨rfl, n1⟩
    have hz := HZ0.out.nb n1
    rw [World.size_alloc] at hz
    obtain ⟨l1, x0, x1, x2, y0, y1, y2⟩ := blk3 hz
    have M1 := Lib.hid (((Nb.rfl.al _).al _).tr n1 : Nb w w1)
    have HZ1 := Lib.hid hz
    clear hz n1 HZ0 HQ0
    obtain ⟨e0, e1, e2⟩ := p3_cells (.int .i64 0) (.int .i64 0) (.bool false) HZ1.out
    have nf := p3_nb M1.out (b := w.heap.size + 1) (by omega) (.int .i64 0) (.int .i64 0) (.bool false)
    go_wp2
    change bodyPost _ _ _ _ _ (p3 w1 (w.heap.size + 1) (.int .i64 0) (.int .i64 0) (.bool false))
    generalize p3 w1 (w.heap.size + 1) (.int .i64 0) (.int .i64 0) (.bool false) = WW at e0 e1 e2 nf ⊢
    exact bodyPost_ret (v := .tuple #[.agg #[.int .i64 0, .int .i64 0, .bool false], .int .i64 2]) (by simp [results, Try.results15, go_sem, e0, e1, e2]) rfl ⟨rfl, nf⟩
  | true =>
    rw [show errFa s = 0 by simp [errFa, hok]] at HC
    have HOK := Lib.hid hok
    have HAF : Hid (l.all evOk = true → afFa s l = l.foldl doFa s ∧ afE s l = 0) := Lib.hid (fun ha => by unfold afFa afE; rw [hok, ha]; exact ⟨rfl, rfl⟩)
    have HAB : Hid (l.all evOk = false → afFa s l = Fa.zero ∧ afE s l = 2) := Lib.hid (fun ha => by unfold afFa afE; rw [ha, Bool.and_false]; exact ⟨rfl, rfl⟩)
    clear hok
    generalize afFa s l = Y at *
    generalize afE s l = E at *
    obtain ⟨T, hT⟩ : ∃ T, T = s.T := ⟨_, rfl⟩
    obtain ⟨R, hR⟩ : ∃ R, R = s.R := ⟨_, rfl⟩
    obtain ⟨O, hO⟩ : ∃ O, O = s.O := ⟨_, rfl⟩
    have hcs : s.cs = #[.int .i64 T, .int .i64 R, .bool O] := by rw [hT, hR, hO]; rfl
    rw [hcs] at HC HZ0 HQ0
    have HCS := Lib.hid hcs
    rw [hcs]
    clear hcs hT hR hO
    go_enter Try.func15, Try.ntmps15
    go_wp2_with fail
    refine (HC.out _).mono ?_
    rintro en w1 ⟨rfl, n1⟩
    have hz := HZ0.out.nb n1
    rw [World.size_alloc] at hz
    have HZ1 := Lib.hid hz
    have HQ1 := Lib.hid ((HQ0.out.nb (Nb.rfl.al _)).nb n1)
    have M1 := Lib.hid (((Nb.rfl.al _).al _).tr n1 : Nb w w1)
    clear hz n1 HZ0 HQ0
    go_wp2
    go_loopw [19] (fun ix wr => ∃ k : Nat, k ≤ l.length ∧ ix = .int .i64 k ∧ (l.take k).all evOk = true ∧ Blk wr w.heap.size ((l.take k).foldl doFa s).cs 25 ∧ Blk wr (w.heap.size + 1) #[.int .i64 0, .int .i64 0, .bool false] 25 ∧ Nb w wr) (fun ix _ => l.length - (intOf ix).toNat)
    case atStart => exact ⟨0, Nat.zero_le _, rfl, rfl, by rw [List.take_zero, List.foldl_nil, HCS.out]; exact HQ1.out, HZ1.out, M1.out⟩
    case round =>
      obtain ⟨k, hk, rfl, hall, hq, hz, hnb⟩ := hrel
      have HA := Lib.hid hall
      have HQ := Lib.hid hq
      have HZ := Lib.hid hz
      have N := Lib.hid hnb
      clear hall hq hz hnb HCS HQ1 HZ1 M1 HC
      by_cases hlt : k < l.length
      · obtain ⟨b, o, rfl, hc⟩ := (HL.out.below N.out).hcells (by omega)
        have c9 := hc k hlt
        have hsk := fold_ok HOK.out (l.take k)
        have HT1 := Lib.hid (all_take_succ hlt)
        have HT2 := Lib.hid (fold_take_succ (s := s) hlt)
        have HT3 := Lib.hid (all_false_of hlt)
        generalize l.getD k 0 = x at *
        generalize (l.take k).foldl doFa s = sk at *
        cases hev : evOk x with
        | true =>
          have hn := fun w' => fnext11_any sk x w'
          rw [(nx_good hsk hev).1, (nx_good hsk hev).2] at hn
          have HA2 := Lib.hid (show (l.take (k + 1)).all evOk = true by rw [HT1.out, HA.out, hev]; rfl)
          clear HT1 HT3 hev hsk hc
          obtain ⟨sn, hsn⟩ : ∃ sn, doFa sk x = sn := ⟨_, rfl⟩
          rw [hsn] at hn HT2
          clear hsn
          obtain ⟨T1, R1, O1⟩ := sk
          obtain ⟨T2, R2, O2⟩ := sn
          simp only [Fa.cs] at hn HQ
          have HN := Lib.hid hn
          clear hn
          obtain ⟨l0, c0, c1, c2, f0, f1, f2⟩ := blk3 HQ.out
          go_wp2_with fail
          refine (HN.out _).mono ?_
          rintro en w2 ⟨rfl, n2⟩
          have HQ2 := Lib.hid (HQ.out.nb n2)
          have HZ2 := Lib.hid (HZ.out.nb n2)
          have N2 := Lib.hid (N.out.tr n2)
          clear c0 c1 c2 f0 f1 f2 n2 c9
          obtain ⟨l2, c0, c1, c2, f0, f1, f2⟩ := blk3 HQ2.out
          go_wp2
          go_roundw
          case rel =>
            refine ⟨k + 1, by omega, by go_num, HA2.out, ?_, ?_, ?_⟩
            · rw [HT2.out]
              exact (p3_blk (.int .i64 T2) (.int .i64 R2) (.bool O2) HQ2.out).nb (Nb.rfl.al _)
            · exact (((HZ2.out.other (p := ⟨w.heap.size, 0, none⟩) (by simp) _).other (p := ⟨w.heap.size, 1, none⟩) (by simp) _).other (p := ⟨w.heap.size, 2, none⟩) (by simp) _).nb (Nb.rfl.al _)
            · exact (p3_nb N2.out (Nat.le_refl _) _ _ _).al _
          case measure => simp [intOf]; omega
        | false =>
          have hn := fun w' => fnext11_any sk x w'
          rw [(nx_bad hev).1, (nx_bad hev).2] at hn
          obtain ⟨rfl, rfl⟩ := HAB.out (HT3.out hev)
          clear HT1 HT2 HT3 hev hsk hc
          obtain ⟨T1, R1, O1⟩ := sk
          simp only [Fa.cs, Fa.zero] at hn HQ ⊢
          have HN := Lib.hid hn
          clear hn
          obtain ⟨l0, c0, c1, c2, f0, f1, f2⟩ := blk3 HQ.out
          go_wp2_with fail
          refine (HN.out _).mono ?_
          rintro en w2 ⟨rfl, n2⟩
          have HZ2 := Lib.hid (HZ.out.nb n2)
          have N2 := Lib.hid (N.out.tr n2)
          clear c0 c1 c2 f0 f1 f2 n2 c9
          obtain ⟨l2, x0, x1, x2, y0, y1, y2⟩ := blk3 HZ2.out
          obtain ⟨e0, e1, e2⟩ := p3_cells (.int .i64 0) (.int .i64 0) (.bool false) HZ2.out
          have nf := p3_nb N2.out (b := w.heap.size + 1) (by omega) (.int .i64 0) (.int .i64 0) (.bool false)
          go_wp2
          change bodyPost _ _ _ _ _ ((p3 w2 (w.heap.size + 1) (.int .i64 0) (.int .i64 0) (.bool false)).alloc (.cells #[.int .i64 0, .int .i64 0, .bool false] 25))
          have nf2 := nf.al (.cells #[.int .i64 0, .int .i64 0, .bool false] 25)
          have hbl := (p3_blk (.int .i64 0) (.int .i64 0) (.bool false) HZ2.out).nb (Nb.rfl.al (.cells #[.int .i64 0, .int .i64 0, .bool false] 25))
          obtain ⟨_, e0, e1, e2, _⟩ := blk3 hbl
          generalize (p3 w2 (w.heap.size + 1) (.int .i64 0) (.int .i64 0) (.bool false)).alloc (.cells #[.int .i64 0, .int .i64 0, .bool false] 25) = WW at e0 e1 e2 nf2 ⊢
          exact bodyPost_ret (v := .tuple #[.agg #[.int .i64 0, .int .i64 0, .bool false], .int .i64 2]) (by simp [results, Try.results15, go_sem, e0, e1, e2]) rfl ⟨rfl, nf2⟩
      · obtain rfl : k = l.length := by omega
        rw [List.take_length] at HA HQ
        obtain ⟨rfl, rfl⟩ := HAF.out HA.out
        obtain ⟨sk, hsk⟩ : ∃ sk, sk = l.foldl doFa s := ⟨_, rfl⟩
        rw [← hsk] at HQ
        obtain ⟨T1, R1, O1⟩ := sk
        have HK := Lib.hid hsk
        clear hsk
        simp only [Fa.cs] at HQ
        obtain ⟨l0, c0, c1, c2, f0, f1, f2⟩ := blk3 HQ.out
        obtain ⟨l2, x0, x1, x2, y0, y1, y2⟩ := blk3 HZ.out
        obtain ⟨e0, e1, e2⟩ := p3_cells (.int .i64 T1) (.int .i64 R1) (.bool O1) HZ.out
        have nf := p3_nb N.out (b := w.heap.size + 1) (by omega) (.int .i64 T1) (.int .i64 R1) (.bool O1)
        go_wp2
        change bodyPost _ _ _ _ _ (p3 wr (w.heap.size + 1) (.int .i64 T1) (.int .i64 R1) (.bool O1))
        generalize p3 wr (w.heap.size + 1) (.int .i64 T1) (.int .i64 R1) (.bool O1) = WW at e0 e1 e2 nf ⊢
        exact bodyPost_ret (v := .tuple #[.agg #[.int .i64 T1, .int .i64 R1, .bool O1], .int .i64 0]) (by simp [results, Try.results15, go_sem, e0, e1, e2]) rfl ⟨by rw [← HK.out]; rfl, nf⟩
end Go.Proofs.Ytahemoakehbchaa
