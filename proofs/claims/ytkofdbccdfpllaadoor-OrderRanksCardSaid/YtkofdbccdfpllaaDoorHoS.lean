
/- What waits in a heap: container/heap's down and up over it. Condition: at most a thousand. -/
import Derived.Test.YtkofdbccdfpllaaDoorHoO
namespace Go.Proofs.YtkofdbccdfpllaaDoor
set_option linter.unusedVariables false
set_option linter.unusedSimpArgs false
open Go.RowKit Go.Sort

theorem mthHP_Less (R : Nat) (w : World) : (method 210 60 (.pointer (some ⟨R, 0, none⟩)) "Less").run Tryd.prog w = .ok (70, .pointer (some ⟨R, 0, none⟩)) w := by kernel_rfl
theorem cfHP_Less : ∀ args w, (callFunc 70 args).run Tryd.prog w = .ok (.enter 70 args) w := hcf _ _ Tryd.func70 (by kernel_rfl) (by kernel_rfl)
theorem mthHP_Swap (R : Nat) (w : World) : (method 210 60 (.pointer (some ⟨R, 0, none⟩)) "Swap").run Tryd.prog w = .ok (73, .pointer (some ⟨R, 0, none⟩)) w := by kernel_rfl
theorem cfHP_Swap : ∀ args w, (callFunc 73 args).run Tryd.prog w = .ok (.enter 73 args) w := hcf _ _ Tryd.func73 (by kernel_rfl) (by kernel_rfl)
theorem mthHP_Len (R : Nat) (w : World) : (method 210 60 (.pointer (some ⟨R, 0, none⟩)) "Len").run Tryd.prog w = .ok (43, .pointer (some ⟨R, 0, none⟩)) w := by kernel_rfl
theorem cfHP_Len : ∀ args w, (callFunc 43 args).run Tryd.prog w = .ok (.enter 43 args) w := hcf _ _ Tryd.func43 (by kernel_rfl) (by kernel_rfl)
theorem mthHP_Pop (R : Nat) (w : World) : (method 210 60 (.pointer (some ⟨R, 0, none⟩)) "Pop").run Tryd.prog w = .ok (71, .pointer (some ⟨R, 0, none⟩)) w := by kernel_rfl
theorem cfHP_Pop : ∀ args w, (callFunc 71 args).run Tryd.prog w = .ok (.enter 71 args) w := hcf _ _ Tryd.func71 (by kernel_rfl) (by kernel_rfl)
theorem mthHP_Push (R : Nat) (w : World) : (method 210 60 (.pointer (some ⟨R, 0, none⟩)) "Push").run Tryd.prog w = .ok (72, .pointer (some ⟨R, 0, none⟩)) w := by kernel_rfl
theorem cfHP_Push : ∀ args w, (callFunc 72 args).run Tryd.prog w = .ok (.enter 72 args) w := hcf _ _ Tryd.func72 (by kernel_rfl) (by kernel_rfl)

/-- What down leaves. -/
def DwnP (w w' : World) (R : Nat) (v : Value) (Q : Nat → Prop) (l0 : List (Nat × Nat)) (n i0 : Nat) (b : Bool) : Prop :=
  ∃ l' i, HeP w' R v l' ∧ DnG d0 id Q l0 l' n i0 i ∧ (l'.take n).Perm (l0.take n) ∧ HeQ d0 id Q l' n ∧ (b = decide (i0 < i)) ∧ Kp (fun k => v.ownBlock = some k) w w'
theorem DwnP.of {w w' : World} {R : Nat} {v : Value} {Q : Nat → Prop} {n i0 i : Nat} {l0 l : List (Nat × Nat)} (hp : HeP w' R v l) (h : DnG d0 id Q l0 l n i0 i) (hk : Kp (fun k => v.ownBlock = some k) w w') (hn : n ≤ l0.length) (hh : HeQ d0 id Q l n) : DwnP w w' R v Q l0 n i0 (decide (i0 < i)) :=
  ⟨l, i, hp, h, h.head d0 id hn, hh, rfl, hk⟩

set_option maxHeartbeats 3200000 in
set_option maxRecDepth 100000 in
theorem hdownP_any (R : Nat) (v : Value) (Q : Nat → Prop) (l0 : List (Nat × Nat)) (n i0 : Nat) (w : World) (h : HeP w R v l0) (hn : n ≤ l0.length) (hl : l0.length ≤ 1000) (hi0 : i0 ≤ 1000) (hq : ¬ Q i0 ∨ i0 = 0) (hq2 : ∀ c, i0 ≤ (c - 1) / 2 → 0 < c → Q c)
    (hh : ∀ c, 0 < c → c < n → Q c → (c - 1) / 2 ≠ i0 → leG id (l0.getD ((c - 1) / 2) d0) (l0.getD c d0)) :
    Calls Tryd.prog 34 #[.iface 60 (.pointer (some ⟨R, 0, none⟩)), .int .i64 (i0 : Nat), .int .i64 (n : Nat)] w fun e w' => ∃ b, e = .returned (.bool b) ∧ DwnP w w' R v Q l0 n i0 b := by
  have H := Lib.hid h
  have HN := Lib.hid hn
  have HS := Lib.hid (DnG.start d0 id hh)
  have HQ := Lib.hid (show (¬ Q i0 ∨ i0 = 0) ∧ ∀ c, i0 ≤ (c - 1) / 2 → 0 < c → Q c from ⟨hq, hq2⟩)
  have n1 : n ≤ 1000 := by omega
  have mL := mthHP_Less R
  have mS := mthHP_Swap R
  have cL := cfHP_Less
  have cS := cfHP_Swap
  clear h hh hn hq hq2
  go_enter Tryd.func34, Tryd.ntmps34
  go_wp2
  go_loopw [7] (fun u wr => ∃ (i : Nat) (l : List (Nat × Nat)), u = .int .i64 i ∧ i ≤ 1000 ∧ i0 ≤ i ∧ DnG d0 id Q l0 l n i0 i ∧ HeP wr R v l ∧ Kp (fun k => v.ownBlock = some k) w wr) (fun u _ => n - (intOf u).toNat)
  case atStart => exact ⟨i0, l0, rfl, hi0, Nat.le_refl _, HS.out, H.out, Kp.rfl⟩
  case round =>
    obtain ⟨i, l, rfl, hi, hii, hd, hp, hk⟩ := hrel
    have hlen : l.length ≤ 1000 := by rw [hd.len]; exact hl
    have hnl : n ≤ l.length := by rw [hd.len]; exact HN.out
    have HL := Lib.hid (fun (w' : World) (nb : Nb wr w') (j k : Nat) (hj : j < l.length) (hk : k < l.length) => hlessP_any R v l w' (hp.nb nb) j k hj hk hlen)
    have HW := Lib.hid (fun (w' : World) (nb : Nb wr w') (j k : Nat) (hj : j < l.length) (hk : k < l.length) => hswapP_any R v l w' (hp.nb nb) j k hj hk hlen)
    have HP := Lib.hid hp
    have HD := Lib.hid hd
    have HK := Lib.hid hk
    have HSt := Lib.hid (fun (h : 2 * i + 1 < n) (hk : ahG id (l.getD (kidG d0 id l n i) d0) (l.getD i d0) = true) => hd.step d0 id HQ.out.1 HQ.out.2 h hnl hk)
    clear hd hp hk
    by_cases h1 : n ≤ 2 * i + 1
    · have hF := Lib.hid (HD.out.stop1 d0 id h1)
      have d1 : decide ((n : Int) ≤ 2 * (i : Int) + 1) = true := decide_eq_true (by omega)
      clear hlen hnl
      go_wp2
      go_ret
      exact ⟨_, rfl, DwnP.of HP.out HD.out HK.out HN.out hF.out⟩
    have h1' : 2 * i + 1 < n := by omega
    have d1 : decide ((n : Int) ≤ 2 * (i : Int) + 1) = false := decide_eq_false (by omega)
    have d2 : decide (2 * (i : Int) + 1 < 0) = false := decide_eq_false (by omega)
    clear h1
    have E2 := Lib.hid (show ((2 * i + 2 : Nat) : Int) = 2 * (i : Int) + 1 + 1 by omega)
    have E1 := Lib.hid (show ((2 * i + 1 : Nat) : Int) = 2 * (i : Int) + 1 by omega)
    by_cases h2 : 2 * i + 2 < n ∧ ahG id (l.getD (2 * i + 2) d0) (l.getD (2 * i + 1) d0) = true
    · have hk2 : kidG d0 id l n i = 2 * i + 2 := by unfold kidG; rw [if_pos h2]
      have L1 := Lib.hid (fun w' nb => by have := HL.out w' nb (2 * i + 2) (2 * i + 1) (by omega) (by omega); rw [h2.2, E1.out, E2.out] at this; exact this)
      have d3 : decide (2 * (i : Int) + 1 + 1 < (n : Int)) = true := decide_eq_true (by omega)
      cases hb : ahG id (l.getD (2 * i + 2) d0) (l.getD i d0) with
      | false =>
        have hF := Lib.hid (HD.out.stop2 d0 id (by rw [hk2]; exact hb))
        have L2 := Lib.hid (fun w' nb => by have := HL.out w' nb (2 * i + 2) i (by omega) (by omega); rw [hb, E2.out] at this; exact this)
        clear hlen hnl h2 hk2 hb HL HW HSt
        go_wp2_with fail
        refine (L1.out _ Nb.rfl).mono ?_
        rintro e w1 ⟨rfl, n1'⟩
        have N1 := Lib.hid (n1')
        clear n1'
        go_wp2_with fail
        refine (L2.out _ N1.out).mono ?_
        rintro e w2 ⟨rfl, n2'⟩
        have N2 := Lib.hid (N1.out.tr n2')
        clear n2'
        go_wp2
        go_ret
        exact ⟨_, rfl, DwnP.of (HP.out.nb N2.out) HD.out (HK.out.tr (Kp.ofNb (F := fun _ => False) N2.out) (fun _ h => h.elim)) HN.out hF.out⟩
      | true =>
        have hD := Lib.hid (HSt.out h1' (by rw [hk2]; exact hb))
        have L2 := Lib.hid (fun w' nb => by have := HL.out w' nb (2 * i + 2) i (by omega) (by omega); rw [hb, E2.out] at this; exact this)
        have W2 := Lib.hid (fun w' nb => by have := HW.out w' nb i (2 * i + 2) (by omega) (by omega); rw [E2.out] at this; exact this)
        have HK2 := Lib.hid hk2
        have i2 : 2 * i + 2 < n := h2.1
        clear hlen hnl h2 hk2 hb HL HW HSt
        go_wp2_with fail
        refine (L1.out _ Nb.rfl).mono ?_
        rintro e w1 ⟨rfl, n1'⟩
        have N1 := Lib.hid (n1')
        clear n1'
        go_wp2_with fail
        refine (L2.out _ N1.out).mono ?_
        rintro e w2 ⟨rfl, n2'⟩
        have N2 := Lib.hid (N1.out.tr n2')
        clear n2'
        go_wp2_with fail
        refine (W2.out _ N2.out).mono ?_
        rintro e w3 ⟨rfl, p3, k3⟩
        have P3 := Lib.hid p3
        have K3 := Lib.hid ((HK.out.tr (Kp.ofNb (F := fun _ => False) N2.out) (fun _ h => h.elim)).tr k3 (fun _ h => .inl h))
        clear p3 k3
        go_wp2
        go_roundw
        case rel => exact ⟨2 * i + 2, gsw d0 l i (2 * i + 2), by rw [E2.out], by omega, by omega, by rw [← HK2.out]; exact hD.out, P3.out, K3.out⟩
        case measure => simp [intOf]; omega
    · have hk2 : kidG d0 id l n i = 2 * i + 1 := by unfold kidG; rw [if_neg h2]
      cases hb : ahG id (l.getD (2 * i + 1) d0) (l.getD i d0) with
      | false =>
        have hF := Lib.hid (HD.out.stop2 d0 id (by rw [hk2]; exact hb))
        have L2 := Lib.hid (fun w' nb => by have := HL.out w' nb (2 * i + 1) i (by omega) (by omega); rw [hb, E1.out] at this; exact this)
        by_cases h3 : 2 * i + 2 < n
        · have hq : ahG id (l.getD (2 * i + 2) d0) (l.getD (2 * i + 1) d0) = false := by
            cases hq : ahG id (l.getD (2 * i + 2) d0) (l.getD (2 * i + 1) d0) with
            | false => rfl
            | true => exact absurd ⟨h3, hq⟩ h2
          have L1 := Lib.hid (fun w' nb => by have := HL.out w' nb (2 * i + 2) (2 * i + 1) (by omega) (by omega); rw [hq, E1.out, E2.out] at this; exact this)
          have d3 : decide (2 * (i : Int) + 1 + 1 < (n : Int)) = true := decide_eq_true (by omega)
          clear hlen hnl h2 hk2 hb hq HL HW HSt
          go_wp2_with fail
          refine (L1.out _ Nb.rfl).mono ?_
          rintro e w1 ⟨rfl, n1'⟩
          have N1 := Lib.hid (n1')
          clear n1'
          go_wp2_with fail
          refine (L2.out _ N1.out).mono ?_
          rintro e w2 ⟨rfl, n2'⟩
          have N2 := Lib.hid (N1.out.tr n2')
          clear n2'
          go_wp2
          go_ret
          exact ⟨_, rfl, DwnP.of (HP.out.nb N2.out) HD.out (HK.out.tr (Kp.ofNb (F := fun _ => False) N2.out) (fun _ h => h.elim)) HN.out hF.out⟩
        · have d3 : decide (2 * (i : Int) + 1 + 1 < (n : Int)) = false := decide_eq_false (by omega)
          clear hlen hnl h2 hk2 hb HL HW HSt
          go_wp2_with fail
          refine (L2.out _ Nb.rfl).mono ?_
          rintro e w2 ⟨rfl, n2'⟩
          have N2 := Lib.hid (n2')
          clear n2'
          go_wp2
          go_ret
          exact ⟨_, rfl, DwnP.of (HP.out.nb N2.out) HD.out (HK.out.tr (Kp.ofNb (F := fun _ => False) N2.out) (fun _ h => h.elim)) HN.out hF.out⟩
      | true =>
        have hD := Lib.hid (HSt.out h1' (by rw [hk2]; exact hb))
        have L2 := Lib.hid (fun w' nb => by have := HL.out w' nb (2 * i + 1) i (by omega) (by omega); rw [hb, E1.out] at this; exact this)
        have W2 := Lib.hid (fun w' nb => by have := HW.out w' nb i (2 * i + 1) (by omega) (by omega); rw [E1.out] at this; exact this)
        have HK2 := Lib.hid hk2
        by_cases h3 : 2 * i + 2 < n
        · have hq : ahG id (l.getD (2 * i + 2) d0) (l.getD (2 * i + 1) d0) = false := by
            cases hq : ahG id (l.getD (2 * i + 2) d0) (l.getD (2 * i + 1) d0) with
            | false => rfl
            | true => exact absurd ⟨h3, hq⟩ h2
          have L1 := Lib.hid (fun w' nb => by have := HL.out w' nb (2 * i + 2) (2 * i + 1) (by omega) (by omega); rw [hq, E1.out, E2.out] at this; exact this)
          have d3 : decide (2 * (i : Int) + 1 + 1 < (n : Int)) = true := decide_eq_true (by omega)
          clear hlen hnl h2 hk2 hb hq HL HW HSt
          go_wp2_with fail
          refine (L1.out _ Nb.rfl).mono ?_
          rintro e w1 ⟨rfl, n1'⟩
          have N1 := Lib.hid (n1')
          clear n1'
          go_wp2_with fail
          refine (L2.out _ N1.out).mono ?_
          rintro e w2 ⟨rfl, n2'⟩
          have N2 := Lib.hid (N1.out.tr n2')
          clear n2'
          go_wp2_with fail
          refine (W2.out _ N2.out).mono ?_
          rintro e w3 ⟨rfl, p3, k3⟩
          have P3 := Lib.hid p3
          have K3 := Lib.hid ((HK.out.tr (Kp.ofNb (F := fun _ => False) N2.out) (fun _ h => h.elim)).tr k3 (fun _ h => .inl h))
          clear p3 k3
          go_wp2
          go_roundw
          case rel => exact ⟨2 * i + 1, gsw d0 l i (2 * i + 1), by rw [E1.out], by omega, by omega, by rw [← HK2.out]; exact hD.out, P3.out, K3.out⟩
          case measure => simp [intOf]; omega
        · have d3 : decide (2 * (i : Int) + 1 + 1 < (n : Int)) = false := decide_eq_false (by omega)
          clear hlen hnl h2 hk2 hb HL HW HSt
          go_wp2_with fail
          refine (L2.out _ Nb.rfl).mono ?_
          rintro e w2 ⟨rfl, n2'⟩
          have N2 := Lib.hid (n2')
          clear n2'
          go_wp2_with fail
          refine (W2.out _ N2.out).mono ?_
          rintro e w3 ⟨rfl, p3, k3⟩
          have P3 := Lib.hid p3
          have K3 := Lib.hid ((HK.out.tr (Kp.ofNb (F := fun _ => False) N2.out) (fun _ h => h.elim)).tr k3 (fun _ h => .inl h))
          clear p3 k3
          go_wp2
          go_roundw
          case rel => exact ⟨2 * i + 1, gsw d0 l i (2 * i + 1), by rw [E1.out], by omega, by omega, by rw [← HK2.out]; exact hD.out, P3.out, K3.out⟩
          case measure => simp [intOf]; omega
/-- What up leaves. -/
def UppP (w w' : World) (R : Nat) (v : Value) (l0 : List (Nat × Nat)) (n : Nat) : Prop :=
  ∃ l', HeP w' R v l' ∧ l'.length = l0.length ∧ l'.Perm l0 ∧ (∀ k, n ≤ k → l'.getD k d0 = l0.getD k d0) ∧ HeQ d0 id allQ l' n ∧ Kp (fun k => v.ownBlock = some k) w w'

set_option maxHeartbeats 3200000 in
set_option maxRecDepth 100000 in
theorem hupP_any (R : Nat) (v : Value) (l0 : List (Nat × Nat)) (n j0 : Nat) (w : World) (h : HeP w R v l0) (hn : n ≤ l0.length) (hl : l0.length ≤ 1000) (hj0 : j0 < n) (hh : UpG d0 id l0 l0 n j0) :
    Calls Tryd.prog 42 #[.iface 60 (.pointer (some ⟨R, 0, none⟩)), .int .i64 (j0 : Nat)] w fun e w' => e = .returned (.tuple #[]) ∧ UppP w w' R v l0 n := by
  have H := Lib.hid h
  have HN := Lib.hid hn
  have HS := Lib.hid hh
  have n1 : n ≤ 1000 := by omega
  have mL := mthHP_Less R
  have mS := mthHP_Swap R
  have cL := cfHP_Less
  have cS := cfHP_Swap
  clear h hh hn
  go_enter Tryd.func42, Tryd.ntmps42
  go_wp2
  go_loopw [1] (fun u wr => ∃ (j : Nat) (l : List (Nat × Nat)), u = .int .i64 j ∧ j < n ∧ UpG d0 id l0 l n j ∧ HeP wr R v l ∧ Kp (fun k => v.ownBlock = some k) w wr) (fun u _ => (intOf u).toNat)
  case atStart => exact ⟨j0, l0, rfl, hj0, HS.out, H.out, Kp.rfl⟩
  case round =>
    obtain ⟨j, l, rfl, hj, hu, hp, hk⟩ := hrel
    have hlen : l.length ≤ 1000 := by rw [hu.len]; exact hl
    have hnl : n ≤ l.length := by rw [hu.len]; exact HN.out
    have HU := Lib.hid hu
    have HP := Lib.hid hp
    have HK := Lib.hid hk
    by_cases hj0 : j = 0
    · subst hj0
      have hF := Lib.hid (hu.stop0 d0 id)
      clear hu hp hk hlen hnl
      go_wp2
      go_end0
      exact ⟨rfl, l, HP.out, HU.out.len, HU.out.perm, HU.out.rest, hF.out, HK.out⟩
    obtain ⟨i, hi⟩ : ∃ i, i = (j - 1) / 2 := ⟨_, rfl⟩
    have E1 := Lib.hid (show ((i : Nat) : Int) = ((j : Int) - 1) / 2 by omega)
    have hij : i < j := by omega
    have d1 : (((j : Int) - 1) / 2 == (j : Int)) = false := by simp; omega
    have HL := Lib.hid (fun (w' : World) (nb : Nb wr w') => by have := hlessP_any R v l w' (hp.nb nb) j i (by omega) (by omega) hlen; rw [E1.out] at this; exact this)
    have HW := Lib.hid (fun (w' : World) (nb : Nb wr w') => by have := hswapP_any R v l w' (hp.nb nb) i j (by omega) (by omega) hlen; rw [E1.out] at this; exact this)
    cases hb : ahG id (l.getD j d0) (l.getD i d0) with
    | false =>
      have hF := Lib.hid (hu.stop d0 id (by rw [← hi]; exact hb))
      rw [hb] at HL
      clear hu hp hk hlen hnl hb HW hi
      go_wp2_with fail
      refine (HL.out _ Nb.rfl).mono ?_
      rintro e w1 ⟨rfl, n1'⟩
      have N1 := Lib.hid n1'
      clear n1'
      go_wp2
      go_end0
      exact ⟨rfl, l, HP.out.nb N1.out, HU.out.len, HU.out.perm, HU.out.rest, hF.out, HK.out.tr (Kp.ofNb (F := fun _ => False) N1.out) (fun _ h => h.elim)⟩
    | true =>
      have hD := Lib.hid (hu.step d0 id (by omega) hj hnl (by rw [← hi]; exact hb))
      rw [hb] at HL
      have HI := Lib.hid hi
      clear hu hp hk hlen hnl hb hi
      go_wp2_with fail
      refine (HL.out _ Nb.rfl).mono ?_
      rintro e w1 ⟨rfl, n1'⟩
      have N1 := Lib.hid n1'
      clear n1'
      go_wp2_with fail
      refine (HW.out _ N1.out).mono ?_
      rintro e w3 ⟨rfl, p3, k3⟩
      have P3 := Lib.hid p3
      have K3 := Lib.hid ((HK.out.tr (Kp.ofNb (F := fun _ => False) N1.out) (fun _ h => h.elim)).tr k3 (fun _ h => .inl h))
      clear p3 k3
      go_wp2
      go_roundw
      case rel => exact ⟨i, gsw d0 l i j, by rw [E1.out], by omega, by have := hD.out; rw [← HI.out] at this; exact this, P3.out, K3.out⟩
      case measure => simp [intOf]; omega
end Go.Proofs.YtkofdbccdfpllaaDoor
