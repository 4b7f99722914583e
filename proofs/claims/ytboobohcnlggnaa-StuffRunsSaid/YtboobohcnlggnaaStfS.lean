
/- Contracts of the document's Put, Split, Get, Count and Take of layer 3. No conditions. -/
import Derived.Test.YtboobohcnlggnaaStfG
namespace Go.Proofs.Ytboobohcnlggnaa
open Go.RowKit

set_option maxHeartbeats 1600000 in
set_option maxRecDepth 100000 in
theorem refsput_ok (a : Option Addr) (cap : Nat) (l : List Nat) (w : World) (h : Bs w a cap l) (hc : chk l = true) (er : Nat) (out : List Nat) (ho : ((putL l).length ≤ 65536 ∧ er = 0 ∧ out = putL l) ∨ (65536 < (putL l).length ∧ er = 2 ∧ out = [])) :
    Calls Try.prog 12 #[.slice a l.length cap] w fun e w' => AnsF w out er e w' ∧ Nb w w' := by
  have hlen := chk_len hc
  have HC := Lib.hid hc
  have H := Lib.hid h
  have HO := Lib.hid ho
  have hl2 := (putL_len2 l).1
  have hmx : (putL l).length ≤ 131072 := by omega
  clear h hc ho
  go_enter Try.func12, Try.ntmps12
  go_wp2_with fail
  refine (refcheck_ok a cap l w H.out HC.out).mono ?_
  rintro e w' ⟨rfl, rfl⟩
  go_wp2_with fail
  refine (stuffed_any a cap l w H.out HC.out).mono ?_
  rintro e w2 ⟨⟨a', c', rfl, hfr⟩, hnb⟩
  have HFr := Lib.hid hfr
  clear hfr
  rcases HO.out with ⟨h1, rfl, rfl⟩ | ⟨h1, rfl, rfl⟩
  · go_wp2
    go_ret2
    exact ⟨⟨_, _, rfl, HFr.out⟩, hnb⟩
  · go_wp2
    go_ret2
    exact ⟨⟨_, _, rfl, Fresh.nil _ _⟩, hnb⟩

set_option maxHeartbeats 1600000 in
set_option maxRecDepth 100000 in
theorem refsput_bad (a : Option Addr) (cap : Nat) (l : List Nat) (w : World) (h : Bs w a cap l) (hc : chk l = false) :
    Calls Try.prog 12 #[.slice a l.length cap] w fun e w' => AnsF w [] 2 e w' ∧ Nb w w' := by
  have HC := Lib.hid hc
  have H := Lib.hid h
  clear h hc
  go_enter Try.func12, Try.ntmps12
  go_wp2_with fail
  refine (refcheck_bad a cap l w H.out HC.out).mono ?_
  rintro e w' ⟨rfl, rfl⟩
  go_wp2
  go_ret2
  exact ⟨⟨_, _, rfl, Fresh.nil _ _⟩, Nb.rfl⟩

theorem refsput_u (a : Option Addr) (cap : Nat) (l : List Nat) (w : World) (h : Bs w a cap l) :
    Calls Try.prog 12 #[.slice a l.length cap] w fun e w' => AnsF w (spL l) (spE l) e w' ∧ Nb w w' := by
  cases hc : chk l with
  | true =>
    simp only [spL, spE, hc, if_true]
    by_cases h6 : (putL l).length ≤ 65536
    · rw [if_pos h6, if_pos h6]
      exact refsput_ok a cap l w h hc 0 (putL l) (.inl ⟨h6, rfl, rfl⟩)
    · rw [if_neg h6, if_neg h6]
      exact refsput_ok a cap l w h hc 2 [] (.inr ⟨by omega, rfl, rfl⟩)
  | false =>
    simp only [spL, spE, hc, Bool.false_eq_true, if_false]
    exact refsput_bad a cap l w h hc

/-- What a row's bit k is, and what stands ahead of it. -/
theorem row_at {w : World} {a : Option Addr} {cap : Nat} {l : List Nat} (h : Bs w a cap l) {k : Nat} (hk : k < l.length) :
    ∃ b o x, a = some ⟨b, o, none⟩ ∧ l[k]? = some x ∧ w.cell? ⟨b, o + k, none⟩ = some (.int .u8 (x : Int)) ∧ Bs w a cap (l.take k) ∧ (0 < k → w.cell? ⟨b, o + (k - 1), none⟩ = some (.int .u8 (lastB (l.take k) : Nat))) := by
  obtain ⟨b, o, ha, hcl⟩ := h.hcells (by omega)
  refine ⟨b, o, l.getD k 0, ha, by simp [List.getD, hk], hcl k hk, h.head k, fun h0 => ?_⟩
  have hl : (l.take k).length = k := by rw [List.length_take]; omega
  have := hcl (k - 1) (by omega)
  rw [lastB_getD, hl, this]
  congr 2
  simp [List.getD, show k - 1 < k by omega]

set_option maxHeartbeats 1600000 in
set_option maxRecDepth 100000 in
theorem split_any (a : Option Addr) (cap : Nat) (l : List Nat) (w : World) (h : Bs w a cap l) (hc : chk l = true) :
    Calls Try.prog 27 #[.slice a l.length cap] w fun e w' => ((okS l = false ∧ e = .returned (.tuple #[.slice none 0 0, .int .i64 0, .bool false, .bool false])) ∨ (okS l = true ∧ ∃ a' c', e = .returned (.tuple #[.slice a' (tell l).length c', .int .i64 (l.length - (tell l).length : Nat), .bool (lastS l), .bool true]) ∧ Fresh w w' (.slice a' (tell l).length c') (tell l))) ∧ Nb w w' := by
  have hlen := chk_len hc
  have hbit := Lib.hid (chk_bit hc)
  have H := Lib.hid h
  have hcap := h.hcap
  have hmax := h.hmax
  unfold maxLen at hmax
  clear h hc
  go_enter Try.func27, Try.ntmps27
  go_wp2
  go_loopw [6, 7, 8, 13] (fun v n la i wr => ∃ k : Nat, k ≤ l.length ∧ i = .int .i64 k ∧ Fresh w wr v (tell (l.take k)) ∧ n = .int .i64 (k - (tell (l.take k)).length : Nat) ∧ la = .bool (lastS (l.take k)) ∧ okS (l.take k) = true ∧ Nb w wr) (fun _ _ _ i _ => l.length - (intOf i).toNat)
  case atStart => exact ⟨0, Nat.zero_le _, rfl, Fresh.nil _ _, rfl, rfl, rfl, Nb.rfl⟩
  case round =>
    obtain ⟨k, hk, rfl, hfr, rfl, rfl, hok, hnb⟩ := hrel
    by_cases hlt : k < l.length
    · obtain ⟨b, o, x, rfl, hx, c1, hbT, cp⟩ := row_at (H.out.below hnb) hlt
      have hlT : (l.take k).length = k := by rw [List.length_take]; omega
      have htl := tell_len (l.take k)
      rw [hlT] at htl
      have hx1 := hbit.out x (List.mem_of_getElem? hx)
      have hfull := full_any _ _ _ wr hbT
      rw [hlT] at hfull
      have htk := take_snoc' hx
      have hte := tell_snoc (l.take k) x
      have hlast := lastS_snoc (l.take k) x
      have hoks := okS_snoc (l.take k) x
      rw [← htk] at hte hlast hoks
      rw [hok, Bool.true_and] at hoks
      have hle1 : lastB (l.take k) ≤ 1 := lastB_le (fun y hy => hbit.out y (List.mem_of_mem_take hy))
      have HOK : ∀ {b : Bool}, okS (l.take (k + 1)) = b → b = false → okS l = false := fun {b} h1 h2 => by
        cases hq : okS l with
        | false => rfl
        | true => rw [okS_take hq, h2] at h1; cases h1
      cases hf : full (l.take k) with
      | true =>
        have h5 := full_pos hf
        rw [hlT] at h5
        have cp := cp (by omega)
        rw [hf] at hfull hte hlast hoks
        rw [if_pos rfl] at hte
        have HF := Lib.hid hfull
        by_cases hxl : x = lastB (l.take k)
        · have hd : ((x : Int) == (lastB (l.take k) : Int)) = true := by rw [beq_iff_eq]; omega
          have hno : okS l = false := HOK hoks (by simp [hxl])
          have HNO := Lib.hid hno
          clear hfull hte hlast hoks htk hx hfr hbT hf HOK hno hxl
          generalize lastB (l.take k) = q at *
          go_wp2_with fail
          refine HF.out.mono ?_
          rintro e w2 ⟨rfl, hnb2⟩
          have cp2 : w2.cell? ⟨b, o + (k - 1), none⟩ = some (.int .u8 (q : Int)) := (hnb2.cell (p := ⟨b, o + (k - 1), none⟩) (World.block_lt_of_cell? _ _ cp)).trans cp
          go_wp2
          exact bodyPost_ret (v := .tuple #[.slice none 0 0, .int .i64 0, .bool false, .bool false]) (by simp [results, Try.results27, go_sem]) rfl ⟨.inl ⟨HNO.out, rfl⟩, hnb.tr hnb2⟩
        · have hd : ((x : Int) == (lastB (l.take k) : Int)) = false := by rw [beq_eq_false_iff_ne]; omega
          have hyes : okS (l.take (k + 1)) = true := by rw [hoks]; simp [hxl]
          have hcnt : ((k - (tell (l.take k)).length : Nat) : Int) + 1 = ((k + 1 - (tell (l.take k)).length : Nat) : Int) := by omega
          have HY := Lib.hid hyes
          have HTE := Lib.hid hte
          have HLA := Lib.hid hlast
          have HR := Lib.hid hfr
          clear hfull hte hlast hoks htk hx hfr hbT hf HOK hyes hxl hok
          have hcb : (k - (tell (l.take k)).length : Nat) ≤ 65536 := by omega
          generalize lastB (l.take k) = q at *
          go_wp2_with fail
          refine HF.out.mono ?_
          rintro e w2 ⟨rfl, hnb2⟩
          have cp2 : w2.cell? ⟨b, o + (k - 1), none⟩ = some (.int .u8 (q : Int)) := (hnb2.cell (p := ⟨b, o + (k - 1), none⟩) (World.block_lt_of_cell? _ _ cp)).trans cp
          go_wp2
          go_roundw
          case rel => exact ⟨k + 1, by omega, by go_num, by rw [HTE.out]; exact HR.out.keep hnb2, by rw [HTE.out], by rw [HLA.out], HY.out, hnb.tr hnb2⟩
          case measure => simp [intOf]; omega
      | false =>
        rw [hf] at hfull hte hlast hoks
        rw [if_neg (by simp)] at hte
        rw [Bool.false_and] at hoks
        have HF := Lib.hid hfull
        have hcnt : ((k - (tell (l.take k)).length : Nat) : Int) = ((k + 1 - (tell (l.take k) ++ [x]).length : Nat) : Int) := by rw [List.length_append, List.length_singleton]; omega
        have HY := Lib.hid hoks
        have HTE := Lib.hid hte
        have HLA := Lib.hid hlast
        have HR := Lib.hid hfr
        have HC := Lib.hid hcnt
        clear hfull hte hlast hoks htk hx hfr hbT hf HOK hok cp hle1 hcnt
        generalize tell (l.take k) = T at *
        go_wp2_with fail
        refine HF.out.mono ?_
        rintro e w2 ⟨rfl, hnb2⟩
        have FR2 := Lib.hid (HR.out.keep hnb2)
        have NB2 := Lib.hid (hnb.tr hnb2)
        have hal1 := FR2.out.1.keep (Kp.alloc (F := fun _ => False) (o := .cells #[.int .u8 (x : Int)] 5)) (by simp)
        clear c1 hnb hnb2 HR HF
        go_wp2_with (at_builtin; refine wpList_appB _ rfl (.tmp 35) (.tmp 37) rfl _ T rfl hal1 _ _ [x] 1 rfl rfl (Bs.one w2 x (by omega) _) (by simp) (by simp; omega) ?_)
        intro v4 w4 hown4 hk4 hf4
        have hfin := Fresh.app FR2.out NB2.out hown4 hk4 (by simpa using hf4)
        have HFi := Lib.hid hfin
        clear hfin hown4 hk4 hf4 FR2 NB2 hal1
        go_wp2
        go_roundw
        case rel => exact ⟨k + 1, by omega, by go_num, by rw [HTE.out]; exact HFi.out.1, by rw [HTE.out, ← HC.out], by rw [HLA.out], HY.out, HFi.out.2⟩
        case measure => simp [intOf]; omega
    · obtain rfl : k = l.length := by omega
      rw [List.take_of_length_le (Nat.le_refl _)] at *
      obtain ⟨a', c', rfl, _, _⟩ := hfr.1.bs
      have HR := Lib.hid hfr
      have HOk := Lib.hid hok
      clear hfr hok
      go_wp2
      exact bodyPost_ret (v := .tuple #[.slice a' (tell l).length c', .int .i64 (l.length - (tell l).length : Nat), .bool (lastS l), .bool true]) (by simp [results, Try.results27, go_sem]) rfl ⟨.inr ⟨HOk.out, _, _, rfl, HR.out⟩, hnb⟩

set_option maxHeartbeats 1600000 in
set_option maxRecDepth 100000 in
theorem refsget_bad (a : Option Addr) (cap : Nat) (l : List Nat) (w : World) (h : Bs w a cap l) (hc : chk l = false) :
    Calls Try.prog 14 #[.slice a l.length cap] w fun e w' => AnsF w [] 2 e w' ∧ Nb w w' := by
  have HC := Lib.hid hc
  have H := Lib.hid h
  clear h hc
  go_enter Try.func14, Try.ntmps14
  go_wp2_with fail
  refine (refcheck_bad a cap l w H.out HC.out).mono ?_
  rintro e w' ⟨rfl, rfl⟩
  go_wp2
  go_ret2
  exact ⟨⟨_, _, rfl, Fresh.nil _ _⟩, Nb.rfl⟩

set_option maxHeartbeats 1600000 in
set_option maxRecDepth 100000 in
theorem refsget_ok (a : Option Addr) (cap : Nat) (l : List Nat) (w : World) (h : Bs w a cap l) (hc : chk l = true) :
    Calls Try.prog 14 #[.slice a l.length cap] w fun e w' => AnsF w (sgL l) (sgE l) e w' ∧ Nb w w' := by
  have hsp := fun w h => split_any a cap l w h hc
  have HC := Lib.hid hc
  have H := Lib.hid h
  simp only [sgL, sgE, hc, if_true]
  cases ho : okS l with
  | false =>
    rw [ho] at hsp
    have HSp := Lib.hid hsp
    simp only [Bool.false_eq_true, if_false]
    clear hsp h hc
    go_enter Try.func14, Try.ntmps14
    go_wp2_with fail
    refine (refcheck_ok a cap l w H.out HC.out).mono ?_
    rintro e w' ⟨rfl, rfl⟩
    go_wp2_with fail
    refine (HSp.out w H.out).mono ?_
    rintro e w2 ⟨⟨_, rfl⟩ | ⟨h0, _⟩, hnb⟩
    · go_wp2
      go_ret2
      exact ⟨⟨_, _, rfl, Fresh.nil _ _⟩, hnb⟩
    · cases h0
  | true =>
    rw [ho] at hsp
    simp only [if_true]
    cases hl : lastS l with
    | true =>
      rw [hl] at hsp
      have HSp := Lib.hid hsp
      simp only [if_true]
      clear hsp h hc
      go_enter Try.func14, Try.ntmps14
      go_wp2_with fail
      refine (refcheck_ok a cap l w H.out HC.out).mono ?_
      rintro e w' ⟨rfl, rfl⟩
      go_wp2_with fail
      refine (HSp.out w H.out).mono ?_
      rintro e w2 ⟨⟨h0, _⟩ | ⟨_, a', c', rfl, hfr⟩, hnb⟩
      · cases h0
      · clear hfr
        go_wp2
        go_ret2
        exact ⟨⟨_, _, rfl, Fresh.nil _ _⟩, hnb⟩
    | false =>
      rw [hl] at hsp
      have HSp := Lib.hid hsp
      simp only [Bool.false_eq_true, if_false]
      clear hsp h hc
      go_enter Try.func14, Try.ntmps14
      go_wp2_with fail
      refine (refcheck_ok a cap l w H.out HC.out).mono ?_
      rintro e w' ⟨rfl, rfl⟩
      go_wp2_with fail
      refine (HSp.out w H.out).mono ?_
      rintro e w2 ⟨⟨h0, _⟩ | ⟨_, a', c', rfl, hfr⟩, hnb⟩
      · cases h0
      · have HFr := Lib.hid hfr
        clear hfr
        go_wp2
        go_ret2
        exact ⟨⟨_, _, rfl, HFr.out⟩, hnb⟩

theorem refsget_u (a : Option Addr) (cap : Nat) (l : List Nat) (w : World) (h : Bs w a cap l) :
    Calls Try.prog 14 #[.slice a l.length cap] w fun e w' => AnsF w (sgL l) (sgE l) e w' ∧ Nb w w' := by
  cases hc : chk l with
  | true => exact refsget_ok a cap l w h hc
  | false =>
    simp only [sgL, sgE, hc, Bool.false_eq_true, if_false]
    exact refsget_bad a cap l w h hc

set_option maxHeartbeats 1600000 in
set_option maxRecDepth 100000 in
theorem refscount_bad (a : Option Addr) (cap : Nat) (l : List Nat) (w : World) (h : Bs w a cap l) (hc : chk l = false) :
    Calls Try.prog 16 #[.slice a l.length cap] w fun e w' => e = .returned (.tuple #[.int .i64 (0 : Nat), .int .i64 (2 : Nat)]) ∧ Nb w w' := by
  have HC := Lib.hid hc
  have H := Lib.hid h
  clear h hc
  go_enter Try.func16, Try.ntmps16
  go_wp2_with fail
  refine (refcheck_bad a cap l w H.out HC.out).mono ?_
  rintro e w' ⟨rfl, rfl⟩
  go_wp2
  go_ret2
  exact ⟨rfl, Nb.rfl⟩

set_option maxHeartbeats 1600000 in
set_option maxRecDepth 100000 in
theorem refscount_ok (a : Option Addr) (cap : Nat) (l : List Nat) (w : World) (h : Bs w a cap l) (hc : chk l = true) :
    Calls Try.prog 16 #[.slice a l.length cap] w fun e w' => e = .returned (.tuple #[.int .i64 (scN l), .int .i64 (scE l)]) ∧ Nb w w' := by
  have hsp := fun w h => split_any a cap l w h hc
  have HC := Lib.hid hc
  have H := Lib.hid h
  simp only [scN, scE, hc, if_true]
  cases ho : okS l with
  | false =>
    rw [ho] at hsp
    have HSp := Lib.hid hsp
    simp only [Bool.false_eq_true, if_false]
    clear hsp h hc
    go_enter Try.func16, Try.ntmps16
    go_wp2_with fail
    refine (refcheck_ok a cap l w H.out HC.out).mono ?_
    rintro e w' ⟨rfl, rfl⟩
    go_wp2_with fail
    refine (HSp.out w H.out).mono ?_
    rintro e w2 ⟨⟨_, rfl⟩ | ⟨h0, _⟩, hnb⟩
    · go_wp2
      go_ret2
      exact ⟨rfl, hnb⟩
    · cases h0
  | true =>
    rw [ho] at hsp
    simp only [if_true]
    have HSp := Lib.hid hsp
    clear hsp h hc
    go_enter Try.func16, Try.ntmps16
    go_wp2_with fail
    refine (refcheck_ok a cap l w H.out HC.out).mono ?_
    rintro e w' ⟨rfl, rfl⟩
    go_wp2_with fail
    refine (HSp.out w H.out).mono ?_
    rintro e w2 ⟨⟨h0, _⟩ | ⟨_, a', c', rfl, hfr⟩, hnb⟩
    · cases h0
    · clear hfr
      go_wp2
      go_ret2
      exact ⟨rfl, hnb⟩

theorem refscount_u (a : Option Addr) (cap : Nat) (l : List Nat) (w : World) (h : Bs w a cap l) :
    Calls Try.prog 16 #[.slice a l.length cap] w fun e w' => e = .returned (.tuple #[.int .i64 (scN l), .int .i64 (scE l)]) ∧ Nb w w' := by
  cases hc : chk l with
  | true => exact refscount_ok a cap l w h hc
  | false =>
    simp only [scN, scE, hc, Bool.false_eq_true, if_false]
    exact refscount_bad a cap l w h hc
end Go.Proofs.Ytboobohcnlggnaa
