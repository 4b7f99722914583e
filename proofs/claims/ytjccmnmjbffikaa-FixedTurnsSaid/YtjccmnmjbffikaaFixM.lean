
/- Contracts of package fixed's Size and Put. No conditions. -/
import Derived.Test.YtjccmnmjbffikaaFixS
import Derived.Test.YtjccmnmjbffikaaFixT
namespace Go.Proofs.Ytjccmnmjbffikaa
open Go.RowKit

/-! Size's answers. -/
def fzOk (n E : Int) : Bool := bgOk 0 E && decide (0 ≤ n) && decide (n ≤ 65536)
def fzE (n E : Int) : Nat := if fzOk n E then 0 else 2
def fzN (n E : Int) (A : Bool) : Nat := if fzOk n E then szF E.toNat A n.toNat else 0
theorem bgOk_nat {p : Nat} {E : Int} (h : bgOk p E = true) : ∃ m : Nat, E = m ∧ 1 ≤ m ∧ m ≤ 64 ∧ p ≤ 1 := by
  simp only [bgOk, Bool.and_eq_true, decide_eq_true_eq] at h
  obtain ⟨m, rfl⟩ := Int.eq_ofNat_of_zero_le (by omega : 0 ≤ E)
  exact ⟨m, rfl, by omega, by omega, h.1.1⟩
theorem bgOk_of {p E : Nat} (hp : p ≤ 1) (h1 : 1 ≤ E) (h2 : E ≤ 64) : bgOk p E = true := by
  simp only [bgOk, Bool.and_eq_true, decide_eq_true_eq]
  omega

set_option maxHeartbeats 1600000 in
set_option maxRecDepth 100000 in
theorem fxsize_bad (n E : Int) (A : Bool) (w : World) (h : fzOk n E = false) :
    Calls Try.prog 16 #[.int .i64 n, .agg #[.int .i64 E, .bool A]] w fun e w' => e = .returned (.tuple #[.int .i64 0, .int .i64 2]) ∧ Nb w w' := by
  cases hb : bgOk 0 E with
  | false =>
    have HB := Lib.hid hb
    clear h hb
    go_enter Try.func16, Try.ntmps16
    go_wp2_with fail
    refine (fxbegin_bad 0 E A _ (by omega) HB.out).mono ?_
    rintro e w1 ⟨rfl, hnb⟩
    go_wp2
    go_ret2
    exact ⟨rfl, (Nb.rfl.al _).tr hnb⟩
  | true =>
    obtain ⟨m, rfl, h1, h2, _⟩ := bgOk_nat hb
    have hn : n < 0 ∨ 65536 < n := by
      simp only [fzOk, hb, Bool.true_and, Bool.and_eq_false_iff, decide_eq_false_iff_not] at h
      omega
    clear h hb
    by_cases h0 : n < 0
    · clear hn
      go_enter Try.func16, Try.ntmps16
      go_wp2_with fail
      refine (fxbegin_ok 0 m A _ (by omega) h1 h2).mono ?_
      rintro e w1 ⟨⟨R, rfl, hst, hR⟩, hnb⟩
      clear hst
      go_wp2
      go_ret2
      exact ⟨rfl, (Nb.rfl.al _).tr hnb⟩
    · have hn : 65536 < n := by omega
      go_enter Try.func16, Try.ntmps16
      go_wp2_with fail
      refine (fxbegin_ok 0 m A _ (by omega) h1 h2).mono ?_
      rintro e w1 ⟨⟨R, rfl, hst, hR⟩, hnb⟩
      clear hst
      go_wp2
      go_ret2
      exact ⟨rfl, (Nb.rfl.al _).tr hnb⟩

set_option maxHeartbeats 1600000 in
set_option maxRecDepth 100000 in
theorem fxsize_ok (n E : Nat) (A : Bool) (w : World) (hn : n ≤ 65536) (h1 : 1 ≤ E) (h2 : E ≤ 64) :
    Calls Try.prog 16 #[.int .i64 n, .agg #[.int .i64 E, .bool A]] w fun e w' => e = .returned (.tuple #[.int .i64 (szF E A n), .int .i64 0]) ∧ Nb w w' := by
  have d1 : decide ((n : Int) < 0) = false := by simp
  have d2 : decide (65536 < (n : Int)) = false := by simp; omega
  go_enter Try.func16, Try.ntmps16
  go_wp2_with fail
  refine (fxbegin_ok 0 E A _ (by omega) h1 h2).mono ?_
  rintro e w1 ⟨⟨R, rfl, hst, hR⟩, hnb⟩
  have hnb1 : Nb w w1 := (Nb.rfl.al _).tr hnb
  have hR1 : w.heap.size ≤ R := by simp at hR; omega
  have HS := Lib.hid hst
  have HN := Lib.hid hnb1
  clear hst hnb hR hnb1
  go_wp2
  go_loopw [24] (fun i wr => ∃ k : Nat, k ≤ n ∧ i = .int .i64 k ∧ StA wr R E (leftF E A k) 0 (szF E A k) ∧ Nb w wr) (fun i _ => n - (intOf i).toNat)
  case atStart => exact ⟨0, Nat.zero_le _, rfl, HS.out, HN.out⟩
  case round =>
    obtain ⟨k, hk, rfl, hst, hnb⟩ := hrel
    clear HS HN
    by_cases hlt : k < n
    · have hsz := szF_le2 E A k
      have hss := szF_succ (E := E) A k
      have hls := leftF_succ h1 A k
      have hdd := leftF_due h1 A k
      have hle := leftF_le (E := E) A k
      cases hd : dueF E A k with
      | true =>
        rw [hd] at hss hls hdd
        simp only [if_true] at hss hls
        have H := Lib.hid hst
        have HSS := Lib.hid hss
        have HLS := Lib.hid hls
        have HDD := Lib.hid hdd
        have HNB := Lib.hid hnb
        clear hst hss hls hdd hnb hd
        go_wp2_with fail
        refine (fxdue_any R E _ 0 _ wr H.out).mono ?_
        rintro e w2 ⟨rfl, rfl⟩
        rw [HDD.out]
        go_wp2_with fail
        refine (fxstuff_any R E _ 0 _ _ H.out (by omega) (by omega)).mono ?_
        rintro e w3 ⟨rfl, hs3, hk3⟩
        have H3 := Lib.hid hs3
        have HK3 := Lib.hid hk3
        clear hs3 hk3
        go_wp2_with fail
        refine (fxplain_any R E E _ _ 0 _ H3.out (by omega) (by omega) h1 h2).mono ?_
        rintro e w4 ⟨rfl, hs4, hk4⟩
        have H4 := Lib.hid hs4
        have HN4 : Hid (Nb w w4) := Lib.hid (HNB.out.trans ((HK3.out.tr hk4 (fun _ h => .inl h)).toBelow HNB.out.size (fun k h => by omega)))
        clear hs4 hk4
        go_wp2
        go_roundw
        case rel => exact ⟨k + 1, by omega, by go_num, by rw [HSS.out, HLS.out]; exact H4.out, HN4.out⟩
        case measure => simp [intOf]; omega
      | false =>
        have hpos := leftF_pos h1 hd
        rw [hd] at hss hls hdd
        simp only [Bool.false_eq_true, if_false, Nat.add_zero] at hss hls
        have H := Lib.hid hst
        have HSS := Lib.hid hss
        have HLS := Lib.hid hls
        have HDD := Lib.hid hdd
        have HNB := Lib.hid hnb
        clear hst hss hls hdd hnb hd
        go_wp2_with fail
        refine (fxdue_any R E _ 0 _ wr H.out).mono ?_
        rintro e w2 ⟨rfl, rfl⟩
        rw [HDD.out]
        go_wp2_with fail
        refine (fxplain_any R E _ _ _ 0 _ H.out (by omega) (by omega) hpos (by omega)).mono ?_
        rintro e w4 ⟨rfl, hs4, hk4⟩
        have H4 := Lib.hid hs4
        have HN4 : Hid (Nb w w4) := Lib.hid (HNB.out.trans (hk4.toBelow HNB.out.size (fun k h => by omega)))
        clear hs4 hk4
        go_wp2
        go_roundw
        case rel => exact ⟨k + 1, by omega, by go_num, by rw [HSS.out, HLS.out]; exact H4.out, HN4.out⟩
        case measure => simp [intOf]; omega
    · obtain rfl : k = n := by omega
      have c3 : wr.cell? ⟨R, 3, none⟩ = some (.int .i64 (szF E A k)) := Blk.cell hst 3
      clear hst
      go_wp2
      go_ret2
      exact ⟨rfl, hnb⟩

theorem fxsize_u (n E : Int) (A : Bool) (w : World) :
    Calls Try.prog 16 #[.int .i64 n, .agg #[.int .i64 E, .bool A]] w fun e w' => e = .returned (.tuple #[.int .i64 (fzN n E A), .int .i64 (fzE n E)]) ∧ Nb w w' := by
  cases h : fzOk n E with
  | false =>
    simp only [fzN, fzE, h, Bool.false_eq_true, if_false]
    exact fxsize_bad n E A w h
  | true =>
    simp only [fzN, fzE, h, if_true]
    simp only [fzOk, Bool.and_eq_true, decide_eq_true_eq] at h
    obtain ⟨m, rfl, h1, h2, _⟩ := bgOk_nat h.1.1
    obtain ⟨k, rfl⟩ := Int.eq_ofNat_of_zero_le h.1.2
    exact fxsize_ok k m A w (by omega) h1 h2

/-! Put's answers. -/
def fpOk (p : Nat) (l : List Nat) (E : Int) (A : Bool) : Bool := bgOk p E && chk l && decide (szF E.toNat A l.length ≤ 65536)
def fpE (p : Nat) (l : List Nat) (E : Int) (A : Bool) : Nat := if fpOk p l E A then 0 else 2
def fpL (p : Nat) (l : List Nat) (E : Int) (A : Bool) : List Nat := if fpOk p l E A then fxPut E.toNat A p l else []

set_option maxHeartbeats 1600000 in
set_option maxRecDepth 100000 in
theorem fxput_bad (p : Nat) (a : Option Addr) (cap : Nat) (l : List Nat) (E : Int) (A : Bool) (w : World) (hp : p < 256) (h : Bs w a cap l) (hb : fpOk p l E A = false) :
    Calls Try.prog 11 #[.int .u8 p, .slice a l.length cap, .agg #[.int .i64 E, .bool A]] w fun e w' => AnsF w [] 2 e w' ∧ Nb w w' := by
  have hL := h.len
  have H := Lib.hid h
  clear h
  cases hg : bgOk p E with
  | false =>
    have HG := Lib.hid hg
    clear hb hg
    go_enter Try.func11, Try.ntmps11
    go_wp2_with fail
    refine (fxbegin_bad p E A _ hp HG.out).mono ?_
    rintro e w1 ⟨rfl, hnb⟩
    go_wp2
    go_ret2
    exact ⟨⟨_, _, rfl, Fresh.nil _ _⟩, (Nb.rfl.al _).tr hnb⟩
  | true =>
    obtain ⟨m, rfl, h1, h2, hp1⟩ := bgOk_nat hg
    cases hc : chk l with
    | false =>
      have HC := Lib.hid hc
      clear hb hg hc
      go_enter Try.func11, Try.ntmps11
      go_wp2_with fail
      refine (fxbegin_ok p m A _ hp1 h1 h2).mono ?_
      rintro e w1 ⟨⟨R, rfl, hst, hR⟩, hnb⟩
      have hnb1 : Nb w w1 := (Nb.rfl.al _).tr hnb
      clear hst hnb hR
      go_wp2_with fail
      refine (check_bad a cap l w1 (H.out.below hnb1) HC.out).mono ?_
      rintro e w2 ⟨rfl, rfl⟩
      go_wp2
      go_ret2
      exact ⟨⟨_, _, rfl, Fresh.nil _ _⟩, hnb1⟩
    | true =>
      have hsz : 65536 < szF m A l.length := by
        simp only [fpOk, hg, hc, Bool.true_and, Int.toNat_natCast, decide_eq_false_iff_not] at hb
        omega
      have hlen := chk_len hc
      have hle := szF_le2 m A l.length
      have HC := Lib.hid hc
      clear hb hg hc
      have hmp : ∀ W : World, Blk (W.alloc (.cells #[.int .i64 m, .bool A] 29)) W.heap.size _ _ := fun W => Blk.new W _ _
      have HMP := Lib.hid hmp
      clear hmp
      go_enter Try.func11, Try.ntmps11
      go_wp2_with fail
      refine (fxbegin_ok p m A _ hp1 h1 h2).mono ?_
      rintro e w1 ⟨⟨R, rfl, hst, hR⟩, hnb⟩
      have hbw := (HMP.out w).nb hnb
      have e0 : w1.cell? ⟨w.heap.size, 0, none⟩ = some (.int .i64 m) := hbw.cell 0
      have e1 : w1.cell? ⟨w.heap.size, 1, none⟩ = some (.bool A) := hbw.cell 1
      have hnb1 : Nb w w1 := (Nb.rfl.al _).tr hnb
      clear hst hnb hR hbw
      go_wp2_with fail
      refine (check_ok a cap l w1 (H.out.below hnb1) HC.out).mono ?_
      rintro e w2 ⟨rfl, rfl⟩
      go_wp2_with fail
      refine (fxsize_ok l.length m A w1 hlen h1 h2).mono ?_
      rintro e w2 ⟨rfl, hnb2⟩
      go_wp2
      go_ret2
      exact ⟨⟨_, _, rfl, Fresh.nil _ _⟩, hnb1.tr hnb2⟩

set_option maxHeartbeats 3200000 in
set_option maxRecDepth 100000 in
theorem fxput_ok (p : Nat) (a : Option Addr) (cap : Nat) (l : List Nat) (E : Nat) (A : Bool) (w : World) (hp : p ≤ 1) (h : Bs w a cap l) (h1 : 1 ≤ E) (h2 : E ≤ 64) (hc : chk l = true) (hs : szF E A l.length ≤ 65536) :
    Calls Try.prog 11 #[.int .u8 p, .slice a l.length cap, .agg #[.int .i64 E, .bool A]] w fun e w' => AnsF w (fxPut E A p l) 0 e w' ∧ Nb w w' := by
  have hL := h.len
  have hlen := chk_len hc
  have hbit := Lib.hid (chk_bit hc)
  have H := Lib.hid h
  have HC := Lib.hid hc
  obtain ⟨N, hN⟩ : ∃ N, N = szF E A l.length := ⟨_, rfl⟩
  rw [← hN] at hs
  have HN := Lib.hid hN
  have hmp : ∀ W : World, Blk (W.alloc (.cells #[.int .i64 E, .bool A] 29)) W.heap.size _ _ := fun W => Blk.new W _ _
  have HMP := Lib.hid hmp
  have hm : ∀ w, (Instr.makeSlice 22 (.int .i64 0) (.int .i64 (N : Int))).run Try.prog w = .ok (.slice (some ⟨w.heap.size, 0, none⟩) 0 N) (w.alloc (.cells (madeCells #[.int .u8 0] N) 5)) := fun w => run_makeB w _ (by omega)
  have hmade := fun w => OwnB.made w N (by omega)
  have HMd := Lib.hid hmade
  clear h hc hmp hmade hN
  go_enter Try.func11, Try.ntmps11
  go_wp2_with fail
  refine (fxbegin_ok p E A _ hp h1 h2).mono ?_
  rintro e w1 ⟨⟨R, rfl, hst, hR⟩, hnb⟩
  have hbw := (HMP.out w).nb hnb
  have e0 : w1.cell? ⟨w.heap.size, 0, none⟩ = some (.int .i64 E) := hbw.cell 0
  have e1 : w1.cell? ⟨w.heap.size, 1, none⟩ = some (.bool A) := hbw.cell 1
  have hnb1 : Nb w w1 := (Nb.rfl.al _).tr hnb
  have hR1 : w.heap.size ≤ R := by simp at hR; omega
  have HST := Lib.hid hst
  clear hst hnb hR hbw
  go_wp2_with fail
  refine (check_ok a cap l w1 (H.out.below hnb1) HC.out).mono ?_
  rintro e w2 ⟨rfl, rfl⟩
  go_wp2_with fail
  refine (fxsize_ok l.length E A w1 hlen h1 h2).mono ?_
  rintro e w2 ⟨rfl, hnb2⟩
  rw [← HN.out]
  have hst2 := HST.out.keep (F := fun _ => False) (Kp.ofNb hnb2) (by simp)
  have hRlt : R < w2.heap.size := Blk.lt hst2
  have hst3 := hst2.keep (F := fun _ => False) (Kp.alloc (o := .cells (madeCells #[.int .u8 0] N) 5)) (by simp)
  have hnb3 : Nb w (w2.alloc (.cells (madeCells #[.int .u8 0] N) 5)) := (hnb1.tr hnb2).al _
  have hsz2 : w.heap.size ≤ w2.heap.size := (hnb1.tr hnb2).size
  have hfr3 : Fresh w (w2.alloc (.cells (madeCells #[.int .u8 0] N) 5)) (.slice (some ⟨w2.heap.size, 0, none⟩) 0 N) [] := ⟨HMd.out w2, fun g hg => by simp [Value.ownBlock] at hg; omega⟩
  have hne3 : ∀ g, (Value.slice (some ⟨w2.heap.size, 0, none⟩) 0 N).ownBlock = some g → g ≠ R := fun g hg => by simp [Value.ownBlock] at hg; omega
  have S3 := Lib.hid hst3
  have N3 := Lib.hid hnb3
  have F3 := Lib.hid hfr3
  have NE3 := Lib.hid hne3
  clear hst2 hst3 hnb3 hfr3 hne3 HST hnb1 hnb2 e0 e1
  go_wp2
  go_loopw [11, 44] (fun v i wr => ∃ k : Nat, k ≤ l.length ∧ i = .int .i64 k ∧ StA wr R E (leftF E A k) (lastP p (fxPut E A p (l.take k))) (szF E A k) ∧ Fresh w wr v (fxPut E A p (l.take k)) ∧ (∀ g, v.ownBlock = some g → g ≠ R) ∧ Nb w wr) (fun _ i _ => l.length - (intOf i).toNat)
  case atStart => exact ⟨0, Nat.zero_le _, rfl, S3.out, F3.out, NE3.out, N3.out⟩
  case round =>
    obtain ⟨k, hk, rfl, hst, hfr, hne, hnb⟩ := hrel
    clear S3 N3 F3 NE3
    by_cases hlt : k < l.length
    · obtain ⟨b, o, rfl, hcl⟩ := (H.out.below hnb).hcells (by omega)
      obtain ⟨x, hx⟩ : ∃ x, l[k]? = some x := ⟨l[k], by simp [hlt]⟩
      have c1 := hcl k hlt
      rw [show l.getD k 0 = x from by simp [List.getD, hx]] at c1
      have hx1 := hbit.out x (List.mem_of_getElem? hx)
      have hbT : ∀ y ∈ l.take k, y ≤ 1 := fun y hy => hbit.out y (List.mem_of_mem_take hy)
      have hlast := lastP_le hp (fxPut_bit (E := E) (A := A) (p := p) hbT)
      have hsz := szF_le2 E A k
      have hss := szF_succ (E := E) A k
      have hls := leftF_succ h1 A k
      have hdd := leftF_due h1 A k
      have hle := leftF_le (E := E) A k
      have hPl := fxPut_len (E := E) A p (l.take k)
      have htl : (l.take k).length = k := by rw [List.length_take]; omega
      rw [htl] at hPl
      have htk : fxPut E A p (l.take (k + 1)) = if dueF E A k then fxPut E A p (l.take k) ++ [1 - lastP p (fxPut E A p (l.take k)), x] else fxPut E A p (l.take k) ++ [x] := by
        rw [take_snoc' hx, fxPut_snoc, htl]
      have hlt2 : lastP p (fxPut E A p (l.take (k + 1))) = x := by
        rw [htk]
        split
        · rw [show ∀ q, fxPut E A p (l.take k) ++ [q, x] = (fxPut E A p (l.take k) ++ [q]) ++ [x] from fun q => by simp, lastP_snoc]
        · rw [lastP_snoc]
      obtain ⟨P', hPP⟩ : ∃ P', fxPut E A p (l.take (k + 1)) = P' := ⟨_, rfl⟩
      rw [hPP] at htk hlt2
      have HPP := Lib.hid hPP
      clear hPP
      generalize fxPut E A p (l.take k) = P at *
      have hP : P.length ≤ 140000 := by omega
      have hPs : szF E A k ≤ 140000 := by omega
      clear htl hcl hbT hPl hx hsz
      obtain ⟨aP, cP, rfl, -, -⟩ := hfr.1.bs
      cases hd : dueF E A k with
      | true =>
        rw [hd] at hss hls hdd htk
        simp only [if_true] at hss hls htk
        have HS := Lib.hid hst
        have HSS := Lib.hid hss
        have HLS := Lib.hid hls
        have HDD := Lib.hid hdd
        have HTK := Lib.hid htk
        have HLT := Lib.hid hlt2
        have HNB := Lib.hid hnb
        have HFR := Lib.hid hfr
        have HNE := Lib.hid hne
        clear hst hss hls hdd hnb hd htk hlt2 hfr hne
        go_wp2_with fail
        refine (fxdue_any R E _ _ _ wr HS.out).mono ?_
        rintro e w4 ⟨rfl, rfl⟩
        rw [HDD.out]
        go_wp2_with fail
        refine (fxstuff_any R E _ _ _ wr HS.out (by omega) hlast).mono ?_
        rintro e w4 ⟨rfl, hs4, hk4⟩
        have hfr4 : Fresh w w4 (.slice aP P.length cP) P := ⟨HFR.out.1.keep hk4 (fun g hg h => HNE.out g hg h), HFR.out.2⟩
        have hnb4 : Nb w w4 := HNB.out.trans (hk4.toBelow HNB.out.size (fun k h => by omega))
        obtain ⟨q, hq⟩ : ∃ q, q = 1 - lastP p P := ⟨_, rfl⟩
        have hq1 : q ≤ 1 := by omega
        rw [← hq] at hs4 HTK ⊢
        have hal : Kp (fun _ => False) w4 (w4.alloc (.cells #[.int .u8 (q : Int)] 5)) := Kp.alloc
        have hown := hfr4.1.keep hal (by simp)
        have hs5 := hs4.keep hal (by simp)
        have hRw : R < w4.heap.size := Blk.lt hs4
        have HS5 := Lib.hid hs5
        have HFR4 := Lib.hid hfr4
        have HNB4 := Lib.hid hnb4
        clear hs4 hs5 hfr4 hnb4 hk4 hq hal HS HFR HNB
        go_wp2_with (at_builtin; refine wpList_appB _ rfl (.tmp 50) (.tmp 53) rfl _ P rfl hown _ _ [q] 1 rfl rfl (Bs.one w4 q (by omega) _) (by simp) (by simp; omega) ?_)
        intro v5 w5 hown5 hk5 hf5
        have happ := HFR4.out.app HNB4.out hown5 hk5 (by simpa using hf5)
        have hne5 : ∀ g, v5.ownBlock = some g → g ≠ R := fun g hg => by
          rcases hf5 g hg with h | h
          · exact HNE.out g h
          · first | omega | (simp at h; omega)
        have hs6 := HS5.out.keep hk5 (fun h => HNE.out R h rfl)
        have HS6 := Lib.hid hs6
        have HA5 := Lib.hid happ
        have HNE5 := Lib.hid hne5
        obtain ⟨P2, hP2⟩ : ∃ P2, P2 = P ++ [q] := ⟨_, rfl⟩
        have hP2l : P2.length ≤ 140001 := by rw [hP2]; simp; omega
        have HTK2 : Hid (P' = P2 ++ [x]) := Lib.hid (by rw [HTK.out, hP2]; simp)
        rw [← hP2] at HA5 hown5
        obtain ⟨a5, c5, rfl, -, -⟩ := hown5.bs
        clear hs6 happ hne5 hown5 hk5 hf5 hown HFR4 HNB4 HS5 HNE HTK hP2
        go_wp2_with fail
        refine (fxplain_any R E E _ _ x w5 HS6.out (by omega) (by omega) h1 h2).mono ?_
        rintro e w6 ⟨rfl, hs7, hk7⟩
        have hfr7 : Fresh w w6 (.slice a5 P2.length c5) P2 := ⟨HA5.out.1.1.keep hk7 (fun g hg h => HNE5.out g hg h), HA5.out.1.2⟩
        have hnb7 : Nb w w6 := HA5.out.2.trans (hk7.toBelow HA5.out.2.size (fun k h => by omega))
        have hal : Kp (fun _ => False) w6 (w6.alloc (.cells #[.int .u8 (x : Int)] 5)) := Kp.alloc
        have hown := hfr7.1.keep hal (by simp)
        have hs8 := hs7.keep hal (by simp)
        have hRw2 : R < w6.heap.size := Blk.lt hs7
        have HS8 := Lib.hid hs8
        have HFR7 := Lib.hid hfr7
        have HNB7 := Lib.hid hnb7
        clear hs7 hs8 hfr7 hnb7 hk7 hal HS6 HA5
        go_wp2_with (at_builtin; refine wpList_appB _ rfl (.tmp 58) (.tmp 60) rfl _ P2 rfl hown _ _ [x] 1 rfl rfl (Bs.one w6 x (by omega) _) (by simp) (by simp; omega) ?_)
        intro v9 w9 hown9 hk9 hf9
        have happ := HFR7.out.app HNB7.out hown9 hk9 (by simpa using hf9)
        have hne9 : ∀ g, v9.ownBlock = some g → g ≠ R := fun g hg => by
          rcases hf9 g hg with h | h
          · exact HNE5.out g h
          · first | omega | (simp at h; omega)
        have hs10 := HS8.out.keep hk9 (fun h => HNE5.out R h rfl)
        have HS10 := Lib.hid hs10
        have HA9 := Lib.hid happ
        have HNE9 := Lib.hid hne9
        clear hs10 happ hne9 hown9 hk9 hf9 hown HFR7 HNB7 HS8 HNE5
        go_wp2
        go_roundw
        case rel => exact ⟨k + 1, by omega, by go_num, by rw [HPP.out, HSS.out, HLS.out, HLT.out]; exact HS10.out, by rw [HPP.out, HTK2.out]; exact HA9.out.1, HNE9.out, HA9.out.2⟩
        case measure => simp [intOf]; omega
      | false =>
        have hpos := leftF_pos h1 hd
        rw [hd] at hss hls hdd htk
        simp only [Bool.false_eq_true, if_false, Nat.add_zero] at hss hls htk
        have HS := Lib.hid hst
        have HSS := Lib.hid hss
        have HLS := Lib.hid hls
        have HDD := Lib.hid hdd
        have HTK := Lib.hid htk
        have HLT := Lib.hid hlt2
        have HNB := Lib.hid hnb
        have HFR := Lib.hid hfr
        have HNE := Lib.hid hne
        clear hst hss hls hdd hnb hd htk hlt2 hfr hne
        go_wp2_with fail
        refine (fxdue_any R E _ _ _ wr HS.out).mono ?_
        rintro e w4 ⟨rfl, rfl⟩
        rw [HDD.out]
        go_wp2_with fail
        refine (fxplain_any R E _ _ _ x wr HS.out (by omega) (by omega) hpos (by omega)).mono ?_
        rintro e w6 ⟨rfl, hs7, hk7⟩
        have hfr7 : Fresh w w6 (.slice aP P.length cP) P := ⟨HFR.out.1.keep hk7 (fun g hg h => HNE.out g hg h), HFR.out.2⟩
        have hnb7 : Nb w w6 := HNB.out.trans (hk7.toBelow HNB.out.size (fun k h => by omega))
        have hal : Kp (fun _ => False) w6 (w6.alloc (.cells #[.int .u8 (x : Int)] 5)) := Kp.alloc
        have hown := hfr7.1.keep hal (by simp)
        have hs8 := hs7.keep hal (by simp)
        have hRw2 : R < w6.heap.size := Blk.lt hs7
        have HS8 := Lib.hid hs8
        have HFR7 := Lib.hid hfr7
        have HNB7 := Lib.hid hnb7
        clear hs7 hs8 hfr7 hnb7 hk7 hal HS HFR HNB
        go_wp2_with (at_builtin; refine wpList_appB _ rfl (.tmp 58) (.tmp 60) rfl _ P rfl hown _ _ [x] 1 rfl rfl (Bs.one w6 x (by omega) _) (by simp) (by simp; omega) ?_)
        intro v9 w9 hown9 hk9 hf9
        have happ := HFR7.out.app HNB7.out hown9 hk9 (by simpa using hf9)
        have hne9 : ∀ g, v9.ownBlock = some g → g ≠ R := fun g hg => by
          rcases hf9 g hg with h | h
          · exact HNE.out g h
          · first | omega | (simp at h; omega)
        have hs10 := HS8.out.keep hk9 (fun h => HNE.out R h rfl)
        have HS10 := Lib.hid hs10
        have HA9 := Lib.hid happ
        have HNE9 := Lib.hid hne9
        clear hs10 happ hne9 hown9 hk9 hf9 hown HFR7 HNB7 HS8 HNE
        go_wp2
        go_roundw
        case rel => exact ⟨k + 1, by omega, by go_num, by rw [HPP.out, HSS.out, HLS.out, HLT.out]; exact HS10.out, by rw [HPP.out, HTK.out]; exact HA9.out.1, HNE9.out, HA9.out.2⟩
        case measure => simp [intOf]; omega
    · obtain rfl : k = l.length := by omega
      rw [List.take_of_length_le (Nat.le_refl _)] at hfr
      obtain ⟨aP, cP, rfl, -, -⟩ := hfr.1.bs
      have HFR := Lib.hid hfr
      clear hst hne hfr
      go_wp2
      go_ret2
      exact ⟨⟨_, _, rfl, HFR.out⟩, hnb⟩

theorem fxput_u (p : Nat) (a : Option Addr) (cap : Nat) (l : List Nat) (E : Int) (A : Bool) (w : World) (hp : p < 256) (h : Bs w a cap l) :
    Calls Try.prog 11 #[.int .u8 p, .slice a l.length cap, .agg #[.int .i64 E, .bool A]] w fun e w' => AnsF w (fpL p l E A) (fpE p l E A) e w' ∧ Nb w w' := by
  cases hb : fpOk p l E A with
  | false =>
    simp only [fpL, fpE, hb, Bool.false_eq_true, if_false]
    exact fxput_bad p a cap l E A w hp h hb
  | true =>
    simp only [fpL, fpE, hb, if_true]
    simp only [fpOk, Bool.and_eq_true, decide_eq_true_eq] at hb
    obtain ⟨m, rfl, h1, h2, hp1⟩ := bgOk_nat hb.1.1
    exact fxput_ok p a cap l m A w hp1 h h1 h2 hb.1.2 hb.2
end Go.Proofs.Ytjccmnmjbffikaa
