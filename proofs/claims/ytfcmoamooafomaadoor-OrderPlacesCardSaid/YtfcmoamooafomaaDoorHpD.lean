
/- The program's heap of places: container/heap's down, Init and Pop over it; the first place taken. Condition: at most a thousand places. -/
import Derived.Test.YtfcmoamooafomaaDoorHpN
namespace Go.Proofs.YtfcmoamooafomaaDoor
set_option linter.unusedVariables false
set_option linter.unusedSimpArgs false
open Go.RowKit

/-- What down leaves. -/
def Downed (w w' : World) (R G : Nat) (a : Option Addr) (cap : Nat) (l0 : List (Nat × Nat)) (n i0 : Nat) : Prop :=
  ∃ l', PlAt w' R G a cap l' ∧ l'.length = l0.length ∧ l'.Perm l0 ∧ (∀ k, n ≤ k → l'.getD k d0 = l0.getD k d0) ∧ (l'.take n).Perm (l0.take n) ∧ HpF l' n i0 ∧ Kp (· = G) w w'
theorem Downed.of {w w' : World} {R G cap n i0 i : Nat} {a : Option Addr} {l0 l : List (Nat × Nat)} (h : DnI l0 l n i0 i) (hp : PlAt w' R G a cap l) (hk : Kp (· = G) w w') (hn : n ≤ l0.length) (hh : HpF l n i0) : Downed w w' R G a cap l0 n i0 :=
  ⟨l, hp, h.len, h.perm, h.rest, h.head hn, hh, hk⟩
theorem mth_Less (R : Nat) (w : World) : (method 283 53 (.pointer (some ⟨R, 0, none⟩)) "Less").run Tryd.prog w = .ok (126, .pointer (some ⟨R, 0, none⟩)) w := by kernel_rfl
theorem mth_Swap (R : Nat) (w : World) : (method 283 53 (.pointer (some ⟨R, 0, none⟩)) "Swap").run Tryd.prog w = .ok (128, .pointer (some ⟨R, 0, none⟩)) w := by kernel_rfl
theorem mth_Len (R : Nat) (w : World) : (method 283 53 (.pointer (some ⟨R, 0, none⟩)) "Len").run Tryd.prog w = .ok (29, .pointer (some ⟨R, 0, none⟩)) w := by kernel_rfl
theorem mth_Pop (R : Nat) (w : World) : (method 283 53 (.pointer (some ⟨R, 0, none⟩)) "Pop").run Tryd.prog w = .ok (127, .pointer (some ⟨R, 0, none⟩)) w := by kernel_rfl
theorem cf_Less : ∀ args w, (callFunc 126 args).run Tryd.prog w = .ok (.enter 126 args) w := hcf _ _ Tryd.func126 (by kernel_rfl) (by kernel_rfl)
theorem cf_Swap : ∀ args w, (callFunc 128 args).run Tryd.prog w = .ok (.enter 128 args) w := hcf _ _ Tryd.func128 (by kernel_rfl) (by kernel_rfl)
theorem cf_Len : ∀ args w, (callFunc 29 args).run Tryd.prog w = .ok (.enter 29 args) w := hcf _ _ Tryd.func29 (by kernel_rfl) (by kernel_rfl)
theorem cf_Pop : ∀ args w, (callFunc 127 args).run Tryd.prog w = .ok (.enter 127 args) w := hcf _ _ Tryd.func127 (by kernel_rfl) (by kernel_rfl)

set_option maxHeartbeats 3200000 in
set_option maxRecDepth 100000 in
theorem down_any (R G : Nat) (a : Option Addr) (cap : Nat) (l0 : List (Nat × Nat)) (n i0 : Nat) (w : World) (h : PlAt w R G a cap l0) (hn : n ≤ l0.length) (hl : l0.length ≤ 1000) (hi0 : i0 ≤ 1000) (hh : HpF l0 n (i0 + 1)) :
    Calls Tryd.prog 59 #[.iface 53 (.pointer (some ⟨R, 0, none⟩)), .int .i64 (i0 : Nat), .int .i64 (n : Nat)] w fun e w' => (∃ b, e = .returned (.bool b)) ∧ Downed w w' R G a cap l0 n i0 := by
  have H := Lib.hid h
  have HN := Lib.hid hn
  have HS := Lib.hid (DnI.start hh)
  have n1 : n ≤ 1000 := by omega
  have mL := mth_Less R
  have mS := mth_Swap R
  have cL := cf_Less
  have cS := cf_Swap
  clear h hh hn
  go_enter Tryd.func59, Tryd.ntmps59
  go_wp2
  go_loopw [7] (fun v wr => ∃ (i : Nat) (l : List (Nat × Nat)), v = .int .i64 i ∧ i ≤ 1000 ∧ DnI l0 l n i0 i ∧ PlAt wr R G a cap l ∧ Kp (· = G) w wr) (fun v _ => n - (intOf v).toNat)
  case atStart => exact ⟨i0, l0, rfl, hi0, HS.out, H.out, Kp.rfl⟩
  case round =>
    obtain ⟨i, l, rfl, hi, hd, hp, hk⟩ := hrel
    have hlen : l.length ≤ 1000 := by rw [hd.len]; exact hl
    have hnl : n ≤ l.length := by rw [hd.len]; exact HN.out
    have HL := Lib.hid (fun (w' : World) (nb : Nb wr w') (j k : Nat) (hj : j < l.length) (hk : k < l.length) => pless_any R G a cap l w' (hp.nb nb) j k hj hk hlen)
    have HW := Lib.hid (fun (w' : World) (nb : Nb wr w') (j k : Nat) (hj : j < l.length) (hk : k < l.length) => pswap_all R G a cap l w' (hp.nb nb) j k hj hk hlen)
    have HP := Lib.hid hp
    have HD := Lib.hid hd
    have HK := Lib.hid hk
    have HSt := Lib.hid (fun (h : 2 * i + 1 < n) (hk : ahB (l.getD (kid l n i) d0) (l.getD i d0) = true) => hd.step h hnl hk)
    clear hd hp hk
    by_cases h1 : n ≤ 2 * i + 1
    · have hF := Lib.hid (HD.out.stop1 h1)
      have d1 : decide ((n : Int) ≤ 2 * (i : Int) + 1) = true := decide_eq_true (by omega)
      clear hlen hnl
      go_wp2
      go_ret
      exact ⟨⟨_, rfl⟩, Downed.of HD.out HP.out HK.out HN.out hF.out⟩
    have h1' : 2 * i + 1 < n := by omega
    have d1 : decide ((n : Int) ≤ 2 * (i : Int) + 1) = false := decide_eq_false (by omega)
    have d2 : decide (2 * (i : Int) + 1 < 0) = false := decide_eq_false (by omega)
    clear h1
    have E2 := Lib.hid (show ((2 * i + 2 : Nat) : Int) = 2 * (i : Int) + 1 + 1 by omega)
    have E1 := Lib.hid (show ((2 * i + 1 : Nat) : Int) = 2 * (i : Int) + 1 by omega)
    by_cases h2 : 2 * i + 2 < n ∧ ahB (l.getD (2 * i + 2) d0) (l.getD (2 * i + 1) d0) = true
    · have hk2 : kid l n i = 2 * i + 2 := by unfold kid; rw [if_pos h2]
      have L1 := Lib.hid (fun w' nb => by have := HL.out w' nb (2 * i + 2) (2 * i + 1) (by omega) (by omega); rw [h2.2, E1.out, E2.out] at this; exact this)
      have d3 : decide (2 * (i : Int) + 1 + 1 < (n : Int)) = true := decide_eq_true (by omega)
      cases hb : ahB (l.getD (2 * i + 2) d0) (l.getD i d0) with
      | false =>
        have hF := Lib.hid (HD.out.stop2 (by rw [hk2]; exact hb))
        have L2 := Lib.hid (fun w' nb => by have := HL.out w' nb (2 * i + 2) i (by omega) (by omega); rw [hb, E2.out] at this; exact this)
        clear hlen hnl h2 hk2 hb HL HW HSt
        go_wp2_with fail
        refine (L1.out _ Nb.rfl).mono ?_
        rintro e w1 ⟨rfl, n1'⟩
        have N1 := Lib.hid n1'
        clear n1'
        go_wp2_with fail
        refine (L2.out _ N1.out).mono ?_
        rintro e w2 ⟨rfl, n2'⟩
        have N2 := Lib.hid (N1.out.tr n2')
        clear n2'
        go_wp2
        go_ret
        exact ⟨⟨_, rfl⟩, Downed.of HD.out (HP.out.nb N2.out) (HK.out.tr (Kp.ofNb (F := fun _ => False) N2.out) (fun _ h => h.elim)) HN.out hF.out⟩
      | true =>
        have hD := Lib.hid (HSt.out h1' (by rw [hk2]; exact hb))
        have L2 := Lib.hid (fun w' nb => by have := HL.out w' nb (2 * i + 2) i (by omega) (by omega); rw [hb, E2.out] at this; exact this)
        have W2 := Lib.hid (fun w' nb => by have := HW.out w' nb i (2 * i + 2) (by omega) (by omega); rw [E2.out] at this; exact this)
        have HK2 := Lib.hid hk2
        have i2 : 2 * i + 2 < n := h2.1
        clear hlen hnl h2 hk2 hb HL HW HSt
        go_wp2_with fail
        refine (L1.out _ Nb.rfl).mono ?_
        rintro e w1 ⟨rfl, n1'⟩
        have N1 := Lib.hid n1'
        clear n1'
        go_wp2_with fail
        refine (L2.out _ N1.out).mono ?_
        rintro e w2 ⟨rfl, n2'⟩
        have N2 := Lib.hid (N1.out.tr n2')
        clear n2'
        go_wp2_with fail
        refine (W2.out _ N2.out).mono ?_
        rintro e w3 ⟨rfl, p3, k3⟩
        have P3 := Lib.hid p3
        have K3 := Lib.hid ((HK.out.tr (Kp.ofNb (F := fun _ => False) N2.out) (fun _ h => h.elim)).tr k3 (fun _ h => .inl h))
        clear p3 k3
        go_wp2
        go_roundw
        case rel => exact ⟨2 * i + 2, swp l i (2 * i + 2), by rw [E2.out], by omega, by rw [← HK2.out]; exact hD.out, P3.out, K3.out⟩
        case measure => simp [intOf]; omega
    · have hk2 : kid l n i = 2 * i + 1 := by unfold kid; rw [if_neg h2]
      cases hb : ahB (l.getD (2 * i + 1) d0) (l.getD i d0) with
      | false =>
        have hF := Lib.hid (HD.out.stop2 (by rw [hk2]; exact hb))
        have L2 := Lib.hid (fun w' nb => by have := HL.out w' nb (2 * i + 1) i (by omega) (by omega); rw [hb, E1.out] at this; exact this)
        by_cases h3 : 2 * i + 2 < n
        · have hq : ahB (l.getD (2 * i + 2) d0) (l.getD (2 * i + 1) d0) = false := by
            cases hq : ahB (l.getD (2 * i + 2) d0) (l.getD (2 * i + 1) d0) with
            | false => rfl
            | true => exact absurd ⟨h3, hq⟩ h2
          have L1 := Lib.hid (fun w' nb => by have := HL.out w' nb (2 * i + 2) (2 * i + 1) (by omega) (by omega); rw [hq, E1.out, E2.out] at this; exact this)
          have d3 : decide (2 * (i : Int) + 1 + 1 < (n : Int)) = true := decide_eq_true (by omega)
          clear hlen hnl h2 hk2 hb hq HL HW HSt
          go_wp2_with fail
          refine (L1.out _ Nb.rfl).mono ?_
          rintro e w1 ⟨rfl, n1'⟩
          have N1 := Lib.hid n1'
          clear n1'
          go_wp2_with fail
          refine (L2.out _ N1.out).mono ?_
          rintro e w2 ⟨rfl, n2'⟩
          have N2 := Lib.hid (N1.out.tr n2')
          clear n2'
          go_wp2
          go_ret
          exact ⟨⟨_, rfl⟩, Downed.of HD.out (HP.out.nb N2.out) (HK.out.tr (Kp.ofNb (F := fun _ => False) N2.out) (fun _ h => h.elim)) HN.out hF.out⟩
        · have d3 : decide (2 * (i : Int) + 1 + 1 < (n : Int)) = false := decide_eq_false (by omega)
          clear hlen hnl h2 hk2 hb HL HW HSt
          go_wp2_with fail
          refine (L2.out _ Nb.rfl).mono ?_
          rintro e w2 ⟨rfl, n2'⟩
          have N2 := Lib.hid n2'
          clear n2'
          go_wp2
          go_ret
          exact ⟨⟨_, rfl⟩, Downed.of HD.out (HP.out.nb N2.out) (HK.out.tr (Kp.ofNb (F := fun _ => False) N2.out) (fun _ h => h.elim)) HN.out hF.out⟩
      | true =>
        have hD := Lib.hid (HSt.out h1' (by rw [hk2]; exact hb))
        have L2 := Lib.hid (fun w' nb => by have := HL.out w' nb (2 * i + 1) i (by omega) (by omega); rw [hb, E1.out] at this; exact this)
        have W2 := Lib.hid (fun w' nb => by have := HW.out w' nb i (2 * i + 1) (by omega) (by omega); rw [E1.out] at this; exact this)
        have HK2 := Lib.hid hk2
        by_cases h3 : 2 * i + 2 < n
        · have hq : ahB (l.getD (2 * i + 2) d0) (l.getD (2 * i + 1) d0) = false := by
            cases hq : ahB (l.getD (2 * i + 2) d0) (l.getD (2 * i + 1) d0) with
            | false => rfl
            | true => exact absurd ⟨h3, hq⟩ h2
          have L1 := Lib.hid (fun w' nb => by have := HL.out w' nb (2 * i + 2) (2 * i + 1) (by omega) (by omega); rw [hq, E1.out, E2.out] at this; exact this)
          have d3 : decide (2 * (i : Int) + 1 + 1 < (n : Int)) = true := decide_eq_true (by omega)
          clear hlen hnl h2 hk2 hb hq HL HW HSt
          go_wp2_with fail
          refine (L1.out _ Nb.rfl).mono ?_
          rintro e w1 ⟨rfl, n1'⟩
          have N1 := Lib.hid n1'
          clear n1'
          go_wp2_with fail
          refine (L2.out _ N1.out).mono ?_
          rintro e w2 ⟨rfl, n2'⟩
          have N2 := Lib.hid (N1.out.tr n2')
          clear n2'
          go_wp2_with fail
          refine (W2.out _ N2.out).mono ?_
          rintro e w3 ⟨rfl, p3, k3⟩
          have P3 := Lib.hid p3
          have K3 := Lib.hid ((HK.out.tr (Kp.ofNb (F := fun _ => False) N2.out) (fun _ h => h.elim)).tr k3 (fun _ h => .inl h))
          clear p3 k3
          go_wp2
          go_roundw
          case rel => exact ⟨2 * i + 1, swp l i (2 * i + 1), by rw [E1.out], by omega, by rw [← HK2.out]; exact hD.out, P3.out, K3.out⟩
          case measure => simp [intOf]; omega
        · have d3 : decide (2 * (i : Int) + 1 + 1 < (n : Int)) = false := decide_eq_false (by omega)
          clear hlen hnl h2 hk2 hb HL HW HSt
          go_wp2_with fail
          refine (L2.out _ Nb.rfl).mono ?_
          rintro e w2 ⟨rfl, n2'⟩
          have N2 := Lib.hid n2'
          clear n2'
          go_wp2_with fail
          refine (W2.out _ N2.out).mono ?_
          rintro e w3 ⟨rfl, p3, k3⟩
          have P3 := Lib.hid p3
          have K3 := Lib.hid ((HK.out.tr (Kp.ofNb (F := fun _ => False) N2.out) (fun _ h => h.elim)).tr k3 (fun _ h => .inl h))
          clear p3 k3
          go_wp2
          go_roundw
          case rel => exact ⟨2 * i + 1, swp l i (2 * i + 1), by rw [E1.out], by omega, by rw [← HK2.out]; exact hD.out, P3.out, K3.out⟩
          case measure => simp [intOf]; omega

set_option maxHeartbeats 1600000 in
set_option maxRecDepth 100000 in
theorem hinit_any (R G : Nat) (a : Option Addr) (cap : Nat) (l : List (Nat × Nat)) (w : World) (h : PlAt w R G a cap l) (hl : l.length ≤ 1000) :
    Calls Tryd.prog 42 #[.iface 53 (.pointer (some ⟨R, 0, none⟩))] w fun e w' => e = .returned (.tuple #[]) ∧ ∃ l', PlAt w' R G a cap l' ∧ l'.Perm l ∧ HpF l' l'.length 0 ∧ Kp (· = G) w w' := by
  have H := Lib.hid h
  have HLn := Lib.hid (fun w' (n : Nb w w') => plen_any R G a cap l w' (h.nb n))
  have mN := mth_Len R
  have cN := cf_Len
  clear h
  go_enter Tryd.func42, Tryd.ntmps42
  go_wp2_with fail
  refine (HLn.out _ Nb.rfl).mono ?_
  rintro e w1 ⟨rfl, rfl⟩
  go_wp2
  go_loopw [3] (fun v wr => ∃ (k : Nat) (l' : List (Nat × Nat)), v = .int .i64 ((k : Int) - 1) ∧ k ≤ l.length ∧ l'.length = l.length ∧ l'.Perm l ∧ HpF l' l.length k ∧ PlAt wr R G a cap l' ∧ Kp (· = G) w wr) (fun v _ => (intOf v + 1).toNat)
  case atStart => exact ⟨l.length / 2, l, by congr 1, by omega, rfl, List.Perm.refl _, HpF.half l (by omega), H.out, Kp.rfl⟩
  case round =>
    obtain ⟨k, l', rfl, hk, hlen, hp, hf, hat, hkp⟩ := hrel
    have HF := Lib.hid hf
    have HP := Lib.hid hp
    have HA := Lib.hid hat
    have HK := Lib.hid hkp
    have HL := Lib.hid hlen
    clear hf hp hat hkp hlen
    by_cases h0 : k = 0
    · subst h0
      go_wp2
      go_end0
      exact ⟨rfl, l', HA.out, HP.out, by rw [HL.out]; exact HF.out, HK.out⟩
    · obtain ⟨j, rfl⟩ : ∃ j, k = j + 1 := ⟨k - 1, by omega⟩
      have D := Lib.hid (down_any R G a cap l' l.length j wr HA.out (by rw [HL.out]; exact Nat.le_refl _) (by rw [HL.out]; exact hl) (by omega) HF.out)
      have d0' : decide (0 ≤ ((j + 1 : Nat) : Int) - 1) = true := decide_eq_true (by omega)
      have e0 : ((j + 1 : Nat) : Int) - 1 = (j : Int) := by omega
      simp only [e0] at d0' ⊢
      clear e0 h0
      go_wp2_with fail
      refine D.out.mono ?_
      rintro e w2 ⟨⟨b, rfl⟩, l2, q1, q2, q3, q4, q5, q6, q7⟩
      have Q1 := Lib.hid q1
      have Q2 := Lib.hid (q2.trans HL.out)
      have Q3 := Lib.hid (q3.trans HP.out)
      have Q6 := Lib.hid q6
      have Q7 := Lib.hid (HK.out.tr q7 (fun _ h => .inl h))
      clear q1 q2 q3 q4 q5 q6 q7
      go_wp2
      go_roundw
      case rel => exact ⟨j, l2, rfl, by omega, Q2.out, Q3.out, Q6.out, Q1.out, Q7.out⟩
      case measure => simp [intOf]
end Go.Proofs.YtfcmoamooafomaaDoor
