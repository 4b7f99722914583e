
/- Contract of the document's Take of layer 3. No conditions. -/
import Derived.Test.YtboobohcnlggnaaStfS
namespace Go.Proofs.Ytboobohcnlggnaa
open Go.RowKit

set_option maxHeartbeats 1600000 in
set_option maxRecDepth 100000 in
theorem refstake_bad (a : Option Addr) (cap : Nat) (l : List Nat) (n : Int) (w : World) (h : Bs w a cap l) (hb : stB l n) :
    Calls Try.prog 19 #[.slice a l.length cap, .int .i64 n] w fun e w' => AnsF3 w [] 0 2 e w' ∧ Nb w w' := by
  have H := Lib.hid h
  have HB := Lib.hid hb
  clear h hb
  cases hc : chk l with
  | false =>
    have HC := Lib.hid hc
    clear hc
    go_enter Try.func19, Try.ntmps19
    go_wp2_with fail
    refine (refcheck_bad a cap l w H.out HC.out).mono ?_
    rintro e w' ⟨rfl, rfl⟩
    go_wp2
    go_ret3
    exact ⟨⟨_, _, rfl, Fresh.nil _ _⟩, Nb.rfl⟩
  | true =>
    have HC := Lib.hid hc
    have hn : n < 0 ∨ 65536 < n := by
      rcases HB.out with h | h | h
      · exact .inl h
      · exact .inr h
      · rw [hc] at h; cases h
    clear hc HB
    rcases hn with hn | hn
    · go_enter Try.func19, Try.ntmps19
      go_wp2_with fail
      refine (refcheck_ok a cap l w H.out HC.out).mono ?_
      rintro e w' ⟨rfl, rfl⟩
      go_wp2
      go_ret3
      exact ⟨⟨_, _, rfl, Fresh.nil _ _⟩, Nb.rfl⟩
    · have h0 : ¬ n < 0 := by omega
      go_enter Try.func19, Try.ntmps19
      go_wp2_with fail
      refine (refcheck_ok a cap l w H.out HC.out).mono ?_
      rintro e w' ⟨rfl, rfl⟩
      go_wp2
      go_ret3
      exact ⟨⟨_, _, rfl, Fresh.nil _ _⟩, Nb.rfl⟩

/-- What Take answers. -/
def TkAns (w : World) (l : List Nat) (n : Nat) (e : Ending) (w' : World) : Prop :=
  ((readG n [] l).2 = true ∧ e = .returned (.tuple #[.slice none 0 0, .int .i64 0, .int .i64 4])) ∨
  ∃ pre, readG n [] l = (pre, false) ∧ (((tell pre).length < n ∧ e = .returned (.tuple #[.slice none 0 0, .int .i64 0, .int .i64 3])) ∨ (¬ (tell pre).length < n ∧ AnsF3 w (tell pre) pre.length 0 e w'))

set_option maxHeartbeats 1600000 in
set_option maxRecDepth 100000 in
theorem refstake_any (a : Option Addr) (cap : Nat) (l : List Nat) (n : Nat) (w : World) (h : Bs w a cap l) (hc : chk l = true) (hn : n ≤ 65536) :
    Calls Try.prog 19 #[.slice a l.length cap, .int .i64 n] w fun e w' => TkAns w l n e w' ∧ Nb w w' := by
  have hlen := chk_len hc
  have hbit := Lib.hid (chk_bit hc)
  have H := Lib.hid h
  have HC := Lib.hid hc
  have hcap := h.hcap
  have hmax := h.hmax
  unfold maxLen at hmax
  have d1 : decide ((n : Int) < 0) = false := by simp
  have d2 : decide (65536 < (n : Int)) = false := by simp; omega
  clear h hc
  go_enter Try.func19, Try.ntmps19
  go_wp2_with fail
  refine (refcheck_ok a cap l w H.out HC.out).mono ?_
  rintro e w' ⟨rfl, rfl⟩
  go_wp2
  go_loopw [8, 24] (fun v i wr => ∃ k : Nat, k ≤ l.length ∧ i = .int .i64 k ∧ Fresh w wr v (tell (l.take k)) ∧ readG n [] l = readG n (l.take k) (l.drop k) ∧ Nb w wr) (fun _ i _ => l.length - (intOf i).toNat)
  case atStart => exact ⟨0, Nat.zero_le _, rfl, Fresh.nil _ _, rfl, Nb.rfl⟩
  case round =>
    obtain ⟨k, hk, rfl, hfr, hG, hnb⟩ := hrel
    obtain ⟨aT, cT, rfl, _, _⟩ := hfr.1.bs
    by_cases hlt : k < l.length
    · obtain ⟨b, o, x, rfl, hx, c1, hbT, cp⟩ := row_at (H.out.below hnb) hlt
      have hlT : (l.take k).length = k := by rw [List.length_take]; omega
      have htl := tell_len (l.take k)
      rw [hlT] at htl
      have hx1 := hbit.out x (List.mem_of_getElem? hx)
      have hdr : l.drop k = x :: l.drop (k + 1) := by
        rw [List.drop_eq_getElem_cons hlt]
        congr 1
        rw [List.getElem?_eq_getElem hlt] at hx
        exact Option.some.inj hx
      rw [hdr] at hG
      have htk := take_snoc' hx
      have hte := tell_snoc (l.take k) x
      rw [← htk] at hte
      by_cases he : (tell (l.take k)).length = n
      · rw [readG, if_pos he] at hG
        have hd : (((tell (l.take k)).length : Int) == (n : Int)) = true := by rw [beq_iff_eq]; omega
        have hfin : ∀ w', Fresh w w' (.slice aT (tell (l.take k)).length cT) (tell (l.take k)) → TkAns w l n (.returned (.tuple #[.slice aT (tell (l.take k)).length cT, .int .i64 k, .int .i64 0])) w' := fun w' hf' =>
          .inr ⟨_, hG, .inr ⟨by omega, _, _, by rw [hlT]; rfl, hf'⟩⟩
        have HFi := Lib.hid (hfin _ hfr)
        clear hfin hfr hG hdr hx htk hte he hbT cp
        go_wp2
        go_ret3
        exact ⟨HFi.out, hnb⟩
      · rw [readG, if_neg he] at hG
        have hd : (((tell (l.take k)).length : Int) == (n : Int)) = false := by rw [beq_eq_false_iff_ne]; omega
        have hfull := full_any _ _ _ wr hbT
        rw [hlT] at hfull
        cases hf : full (l.take k) with
        | true =>
          have h5 := full_pos hf
          rw [hlT] at h5
          have cp := cp (by omega)
          have hle1 : lastB (l.take k) ≤ 1 := lastB_le (fun y hy => hbit.out y (List.mem_of_mem_take hy))
          rw [hf] at hfull hte hG
          rw [if_pos rfl] at hte
          rw [Bool.true_and] at hG
          have HF := Lib.hid hfull
          by_cases hxl : x = lastB (l.take k)
          · have hd2 : ((x : Int) == (lastB (l.take k) : Int)) = true := by rw [beq_iff_eq]; omega
            rw [if_pos (by rw [beq_iff_eq]; exact hxl)] at hG
            have hfin : ∀ w', TkAns w l n (.returned (.tuple #[.slice none 0 0, .int .i64 0, .int .i64 4])) w' := fun w' => .inl ⟨by rw [hG], rfl⟩
            have HFi := Lib.hid hfin
            clear hfin hfull hte htk hx hfr hbT hf hxl hG hdr he
            generalize lastB (l.take k) = q at *
            go_wp2_with fail
            refine HF.out.mono ?_
            rintro e w2 ⟨rfl, hnb2⟩
            have cp2 : w2.cell? ⟨b, o + (k - 1), none⟩ = some (.int .u8 (q : Int)) := (hnb2.cell (p := ⟨b, o + (k - 1), none⟩) (World.block_lt_of_cell? _ _ cp)).trans cp
            go_wp2
            go_ret3
            exact ⟨HFi.out _, hnb.tr hnb2⟩
          · have hd2 : ((x : Int) == (lastB (l.take k) : Int)) = false := by rw [beq_eq_false_iff_ne]; omega
            have hb : (x == lastB (l.take k)) = false := by rw [beq_eq_false_iff_ne]; exact hxl
            rw [hb, if_neg (by simp), ← htk] at hG
            have HG := Lib.hid hG
            have HTE := Lib.hid hte
            have HR := Lib.hid hfr
            clear hfull hte htk hx hfr hbT hf hxl hG hdr he hb
            generalize lastB (l.take k) = q at *
            go_wp2_with fail
            refine HF.out.mono ?_
            rintro e w2 ⟨rfl, hnb2⟩
            have cp2 : w2.cell? ⟨b, o + (k - 1), none⟩ = some (.int .u8 (q : Int)) := (hnb2.cell (p := ⟨b, o + (k - 1), none⟩) (World.block_lt_of_cell? _ _ cp)).trans cp
            go_wp2
            go_roundw
            case rel => exact ⟨k + 1, by omega, by go_num, by rw [HTE.out]; exact HR.out.keep hnb2, HG.out, hnb.tr hnb2⟩
            case measure => simp [intOf]; omega
        | false =>
          rw [hf] at hfull hte hG
          rw [if_neg (by simp)] at hte
          rw [Bool.false_and, if_neg (by simp), ← htk] at hG
          have HF := Lib.hid hfull
          have HG := Lib.hid hG
          have HTE := Lib.hid hte
          have HR := Lib.hid hfr
          clear hfull hte htk hx hfr hbT hf hG hdr he cp
          generalize tell (l.take k) = T at *
          go_wp2_with fail
          refine HF.out.mono ?_
          rintro e w2 ⟨rfl, hnb2⟩
          have FR2 := Lib.hid (HR.out.keep hnb2)
          have NB2 := Lib.hid (hnb.tr hnb2)
          have hal1 := FR2.out.1.keep (Kp.alloc (F := fun _ => False) (o := .cells #[.int .u8 (x : Int)] 5)) (by simp)
          clear c1 hnb hnb2 HR HF
          go_wp2_with (at_builtin; refine wpList_appB _ rfl (.tmp 40) (.tmp 42) rfl _ T rfl hal1 _ _ [x] 1 rfl rfl (Bs.one w2 x (by omega) _) (by simp) (by simp; omega) ?_)
          intro v4 w4 hown4 hk4 hf4
          have hfin := Fresh.app FR2.out NB2.out hown4 hk4 (by simpa using hf4)
          have HFi := Lib.hid hfin
          clear hfin hown4 hk4 hf4 FR2 NB2 hal1
          go_wp2
          go_roundw
          case rel => exact ⟨k + 1, by omega, by go_num, by rw [HTE.out]; exact HFi.out.1, HG.out, HFi.out.2⟩
          case measure => simp [intOf]; omega
    · obtain rfl : k = l.length := by omega
      rw [List.take_of_length_le (Nat.le_refl _), List.drop_of_length_le (Nat.le_refl _), readG] at hG
      rw [List.take_of_length_le (Nat.le_refl _)] at *
      have htl := tell_len l
      have HR := Lib.hid hfr
      have HG := Lib.hid hG
      clear hfr hG
      by_cases hs : (tell l).length < n
      · go_wp2
        go_ret3
        exact ⟨.inr ⟨_, HG.out, .inl ⟨hs, rfl⟩⟩, hnb⟩
      · go_wp2
        go_ret3
        exact ⟨.inr ⟨_, HG.out, .inr ⟨hs, _, _, rfl, HR.out⟩⟩, hnb⟩

theorem refstake_u (a : Option Addr) (cap : Nat) (l : List Nat) (n : Int) (w : World) (h : Bs w a cap l) :
    Calls Try.prog 19 #[.slice a l.length cap, .int .i64 n] w fun e w' => AnsF3 w (stL l n) (stK l n) (stE l n) e w' ∧ Nb w w' := by
  by_cases hb : stB l n
  · have e1 : stE l n = 2 := by simp [stE, hb]
    have e2 : stL l n = [] := by simp [stL, e1]
    have e3 : stK l n = 0 := by simp [stK, e1]
    rw [e1, e2, e3]
    exact refstake_bad a cap l n w h hb
  · have hc : chk l = true := by
      cases hc : chk l with
      | true => rfl
      | false => exact absurd (.inr (.inr hc)) hb
    have hn0 : ¬ n < 0 := fun h => hb (.inl h)
    have hn1 : ¬ 65536 < n := fun h => hb (.inr (.inl h))
    obtain ⟨m, rfl⟩ := Int.eq_ofNat_of_zero_le (by omega : 0 ≤ n)
    refine (refstake_any a cap l m w h hc (by omega)).mono ?_
    rintro e w' ⟨⟨h2, rfl⟩ | ⟨pre, hG, ⟨hs, rfl⟩ | ⟨hs, ha⟩⟩, hnb⟩
    · have e1 : stE l m = 4 := by simp [stE, hb, h2]
      have e2 : stL l m = [] := by simp [stL, e1]
      have e3 : stK l m = 0 := by simp [stK, e1]
      rw [e1, e2, e3]
      exact ⟨⟨_, _, rfl, Fresh.nil _ _⟩, hnb⟩
    · have e1 : stE l m = 3 := by simp [stE, hb, hG, hs]
      have e2 : stL l m = [] := by simp [stL, e1]
      have e3 : stK l m = 0 := by simp [stK, e1]
      rw [e1, e2, e3]
      exact ⟨⟨_, _, rfl, Fresh.nil _ _⟩, hnb⟩
    · have e1 : stE l m = 0 := by simp [stE, hb, hG]; omega
      have e2 : stL l m = tell pre := by simp [stL, e1, hG]
      have e3 : stK l m = pre.length := by simp [stK, e1, hG]
      rw [e1, e2, e3]
      exact ⟨ha, hnb⟩
end Go.Proofs.Ytboobohcnlggnaa
