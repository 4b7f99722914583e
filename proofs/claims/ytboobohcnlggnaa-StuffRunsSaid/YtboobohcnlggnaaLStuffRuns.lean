/- For every row and number the law StuffRuns answers true and leaves its arguments as they were. No conditions. -/
import Derived.Test.YtboobohcnlggnaaRows
import Derived.Test.YtboobohcnlggnaaStfL
import Derived.WalkKit
import Derived.ProofKit
import Derived.OpenShut
import Derived.ShutString
import Derived.ChangeOld
import Derived.Below
namespace Go.Proofs.Ytboobohcnlggnaa.stuffRuns
open Go.ChangeShapes Go.WideShapes Go.ChangeAt Go.RowKit
open Go.ChangeMaps (open_string shut_string)
set_option linter.unusedVariables false

theorem own : ownKnob Try.prog.godebug = none := by kernel_rfl
theorem laidOut : laidOutB Try.prog = true := by kernel_rfl

/-- WHAT THE WALK IS TOLD OF A SLICE OF INTEGERS THAT CAME IN: it is nil; or it leads to a row of 'cap' cells, the numbers 'zs' (the first 'len' are its elements, the rest its spare room), each fitting its kind. -/
def IsRow (k : IntKind) (w : World) (a : Option Addr) (len cap : Nat) (zs : List Int) : Prop :=
  (a = none ∧ len = 0 ∧ cap = 0 ∧ zs = []) ∨
  ∃ x, a = some x ∧ len ≤ cap ∧ cap ≤ maxLen ∧ zs.length = cap ∧ (∀ i, i < zs.length → w.cell? (x.add i) = some (.int k (zs.getD i 0))) ∧ ∀ n ∈ zs, (Lit.int k n).wf = true

set_option maxHeartbeats 2000000 in
set_option maxRecDepth 100000 in
theorem walk (a0 : Option Addr) (len0 cap0 : Nat) (z0 : List Int) (a1 : Int) (w : World) (w0 : IsRow .u8 w a0 len0 cap0 z0) (w1 : (Lit.int .u16 a1).wf = true) :
    Calls Try.prog 6 #[.slice a0 len0 cap0, .int .u16 a1] w fun e w' => e = .returned (.bool true) ∧ Below w.heap.size w w' := by
-- For every row and number the law StuffRuns answers true and leaves its arguments as they were. No conditions.
  have nm0 : a0 = none → cap0 = 0 := by
    rintro rfl
    rcases w0 with ⟨_, _, h, _⟩ | ⟨x, h, _⟩
    · exact h
    · cases h
  obtain ⟨l, rfl, h⟩ := Bs.ofRow w0
  obtain ⟨t, rfl, ht⟩ := u16_of_wf w1
  have hL := h.len
  have hcap := h.hcap
  have hcm := h.hmax
  unfold maxLen at hcm
  have H := Lib.hid h
  clear h w0 w1
  by_cases hb1 : 3000 < l.length
  · go_enter Try.func6, Try.ntmps6
    go_wp2_with fail
    refine (alive3_any w).mono ?_
    rintro e w1 ⟨rfl, hnb⟩
    go_wp2
    go_ret
    exact ⟨rfl, hnb⟩
  have s1 : decide (3000 < (l.length : Int)) = false := by simp; omega
  cases hc1 : chk l with
  | false =>
    have HC := Lib.hid hc1
    clear hc1
    go_enter Try.func6, Try.ntmps6
    go_wp2_with fail
    refine (alive3_any w).mono ?_
    rintro e w1 ⟨rfl, hnb⟩
    go_wp2_with fail
    refine (check_bad a0 cap0 l _ (H.out.below hnb) HC.out).mono ?_
    rintro e w2 ⟨rfl, rfl⟩
    go_wp2
    go_ret
    exact ⟨rfl, hnb⟩
  | true =>
    have hb1 : l.length ≤ 3000 := by omega
    obtain ⟨k, hk⟩ : ∃ k, k = t % (l.length + 1) := ⟨_, rfl⟩
    have hkl : k ≤ l.length := by rw [hk]; exact Nat.lt_succ_iff.1 (Nat.mod_lt _ (by omega))
    have hk1 : (t : Int).tmod ((l.length : Int) + 1) = (k : Int) := by rw [hk]; push_cast; exact Int.tmod_eq_emod_of_nonneg (by omega)
    have hk2 : (t : Int) % ((l.length : Int) + 1) = (k : Int) := by rw [hk]; push_cast; rfl
    have hlT : (l.take k).length = k := by rw [List.length_take]; omega
    have hcT : chk (l.take k) = true := chk_of (fun x hx => chk_bit hc1 x (List.mem_of_mem_take hx)) (by omega)
    obtain ⟨p1, p2, p3⟩ := sp_ok hc1 (by omega)
    obtain ⟨q1, q2, q3⟩ := sp_ok hcT (by omega)
    have hl2 := (putL_len2 l).1
    have hmost := putL_most (chk_bit hc1)
    have hok := okS_putL (chk_bit hc1)
    have hrun : ∀ i, (runS ((putL l).take i)).2 ≤ 5 := fun i => okS_run (okS_take hok i)
    obtain ⟨hYX, hbeg⟩ := put_beg l k
    have h1 := fun w hb => sput_u a0 cap0 l w hb
    rw [p1, p2] at h1
    have h3 := fun a w hb => sput_u a cap0 (l.take k) w hb
    rw [q1, q2, hlT] at h3
    obtain ⟨X, hX⟩ : ∃ X, X = putL l := ⟨_, rfl⟩
    obtain ⟨Y, hY⟩ : ∃ Y, Y = putL (l.take k) := ⟨_, rfl⟩
    have hT : ∀ w' a, Bs w' a cap0 l → Bs w' a cap0 (l.take k) := fun w' a hb => hb.head k
    rw [← hX] at h1 hl2 hmost hrun hbeg hYX
    rw [← hY] at h3 hbeg hYX
    have hXl : X.length ≤ 6000 := by omega
    have hYl : Y.length ≤ 6000 := by omega
    obtain ⟨q, hq⟩ : ∃ q, q = (l.length - 1) / 4 := ⟨_, rfl⟩
    have hq1 : 0 < l.length → ((l.length : Int) - 1) / 4 = (q : Int) := fun h => by rw [hq]; omega
    have hq2 : 0 < l.length → X.length ≤ l.length + q := fun h => by
      have h1 := hmost.2 (by intro e; rw [e] at h; simp at h)
      have h2 := hmost.1
      omega
    have hq3 : q ≤ 3000 := by omega
    have d1 : decide ((Y.length : Int) ≤ (X.length : Int)) = true := by simp; omega
    have H1 := Lib.hid h1
    have H3 := Lib.hid h3
    have HC := Lib.hid hc1
    have HTB := Lib.hid hT
    have HB := Lib.hid hbeg
    have HRun := Lib.hid hrun
    clear h1 h3 hX hY hT hc1 hcT p1 p2 p3 q1 q2 q3 hl2 hlT hk hbeg hrun hmost hok hq
    have hA0 : (a0 = none ∧ k = 0 ∧ l.length = 0) ∨ ∃ x, a0 = some x := by
      cases a0 with
      | none =>
        have := H.out.nil_of
        subst this
        exact .inl ⟨rfl, by simpa using hkl, rfl⟩
      | some x => exact .inr ⟨x, rfl⟩
    by_cases hl0 : l.length = 0
    · have hl0b : ((l.length : Int) == 0) = true := by rw [beq_iff_eq]; omega
      clear hq1 hq2
      obtain rfl := List.eq_nil_of_length_eq_zero hl0
      obtain rfl : k = 0 := by simpa using hkl
      rcases hA0 with ⟨rfl, _, _⟩ | ⟨x, rfl⟩
      · obtain rfl := nm0 rfl
        clear nm0 hl0
        go_enter Try.func6, Try.ntmps6
        go_wp2_with fail
        refine (alive3_any w).mono ?_
        rintro e w1 ⟨rfl, n1⟩
        go_wp2_with fail
        refine (check_ok _ _ _ _ (H.out.below n1) HC.out).mono ?_
        rintro e w2 ⟨rfl, rfl⟩
        go_wp2_with fail
        refine (H1.out _ (H.out.below n1)).mono ?_
        rintro e w2 ⟨⟨aX, cX, rfl, hfX⟩, n2⟩
        have FX := Lib.hid hfX
        have N12 := Lib.hid (n1.tr n2)
        have hXc := hfX.bs.1.hcap
        have hXm := hfX.bs.1.hmax
        unfold maxLen at hXm
        clear hfX n1 n2
        go_wp2
        go_loopw [30] (fun i wr => ∃ j : Nat, j ≤ X.length ∧ i = .int .i64 j ∧ Nb w2 wr) (fun i _ => X.length - (intOf i).toNat)
        case atStart => exact ⟨0, Nat.zero_le _, rfl, Nb.rfl⟩
        case round =>
          obtain ⟨j, hj, rfl, hnb⟩ := hrel
          by_cases hlt : j < X.length
          · obtain ⟨bX, oX, rfl, _⟩ := FX.out.bs.1.hcells (by omega)
            have hrun := run_any (some ⟨bX, oX, none⟩) cX (X.take (j + 1)) wr ((FX.out.bs.1.below hnb).head (j + 1))
            have hlX : (X.take (j + 1)).length = j + 1 := by rw [List.length_take]; omega
            have hle := HRun.out (j + 1)
            rw [hlX] at hrun
            have HR := Lib.hid hrun
            obtain ⟨R, hR⟩ : ∃ R, R = (runS (X.take (j + 1))).2 := ⟨_, rfl⟩
            have HRe := Lib.hid hR
            rw [← hR] at hle
            clear hrun hlX hR
            go_wp2_with fail
            refine HR.out.mono ?_
            rintro e w3 ⟨⟨q, rfl, hq⟩, n3⟩
            have hq' : q = R := (run_is hq).trans HRe.out.symm
            subst hq'
            clear hq HR HRe
            go_wp2
            go_roundw
            case rel => exact ⟨j + 1, by omega, by go_num, hnb.tr n3⟩
            case measure => simp [intOf]; omega
          · obtain rfl : j = X.length := by omega
            have N3 := Lib.hid (N12.out.tr hnb)
            have FX3 := Lib.hid (FX.out.keep hnb)
            clear hnb FX N12
            go_wp2_with fail
            refine (H3.out (none) wr (HTB.out _ _ (H.out.below N3.out))).mono ?_
            rintro e w4 ⟨⟨aY, cY, rfl, hfY⟩, n4⟩
            have FY := Lib.hid hfY
            have N4 := Lib.hid (N3.out.tr n4)
            have FX4 := Lib.hid (FX3.out.keep n4)
            clear hfY n4 N3 FX3
            have hA : (aX = none ∧ cX = 0 ∧ Y.length = 0) ∨ ∃ x, aX = some x := by
              cases aX with
              | none =>
                have h1 := FX4.out.bs.1.nil_of
                rw [h1] at hYX
                exact .inl ⟨rfl, FX4.out.bs.2 rfl, by simpa using hYX⟩
              | some x => exact .inr ⟨x, rfl⟩
            have hsm : ∀ w', Nb w4 w' → Calls Try.prog 17 #[.slice aY Y.length cY, .slice aX Y.length cX] w' fun e w'' => e = .returned (.bool true) ∧ Nb w' w'' := fun w' hn => by
              have := same_any aY aX cY cX Y (X.take Y.length) w' (FY.out.bs.1.below hn) ((FX4.out.bs.1.below hn).head Y.length)
              rw [← HB.out] at this
              simpa using this
            have HSM := Lib.hid hsm
            clear hsm FY FX4
            rcases hA with ⟨rfl, rfl, hY0⟩ | ⟨x2, rfl⟩
            · obtain rfl := List.eq_nil_of_length_eq_zero hY0
              clear hY0
              go_wp2_with fail
              refine (HSM.out _ Nb.rfl).mono ?_
              rintro e w5 ⟨rfl, n5⟩
              go_wp2
              go_ret
              exact ⟨rfl, N4.out.tr n5⟩
            · go_wp2_with fail
              refine (HSM.out _ Nb.rfl).mono ?_
              rintro e w5 ⟨rfl, n5⟩
              go_wp2
              go_ret
              exact ⟨rfl, N4.out.tr n5⟩
      · clear nm0 hl0
        go_enter Try.func6, Try.ntmps6
        go_wp2_with fail
        refine (alive3_any w).mono ?_
        rintro e w1 ⟨rfl, n1⟩
        go_wp2_with fail
        refine (check_ok _ _ _ _ (H.out.below n1) HC.out).mono ?_
        rintro e w2 ⟨rfl, rfl⟩
        go_wp2_with fail
        refine (H1.out _ (H.out.below n1)).mono ?_
        rintro e w2 ⟨⟨aX, cX, rfl, hfX⟩, n2⟩
        have FX := Lib.hid hfX
        have N12 := Lib.hid (n1.tr n2)
        have hXc := hfX.bs.1.hcap
        have hXm := hfX.bs.1.hmax
        unfold maxLen at hXm
        clear hfX n1 n2
        go_wp2
        go_loopw [30] (fun i wr => ∃ j : Nat, j ≤ X.length ∧ i = .int .i64 j ∧ Nb w2 wr) (fun i _ => X.length - (intOf i).toNat)
        case atStart => exact ⟨0, Nat.zero_le _, rfl, Nb.rfl⟩
        case round =>
          obtain ⟨j, hj, rfl, hnb⟩ := hrel
          by_cases hlt : j < X.length
          · obtain ⟨bX, oX, rfl, _⟩ := FX.out.bs.1.hcells (by omega)
            have hrun := run_any (some ⟨bX, oX, none⟩) cX (X.take (j + 1)) wr ((FX.out.bs.1.below hnb).head (j + 1))
            have hlX : (X.take (j + 1)).length = j + 1 := by rw [List.length_take]; omega
            have hle := HRun.out (j + 1)
            rw [hlX] at hrun
            have HR := Lib.hid hrun
            obtain ⟨R, hR⟩ : ∃ R, R = (runS (X.take (j + 1))).2 := ⟨_, rfl⟩
            have HRe := Lib.hid hR
            rw [← hR] at hle
            clear hrun hlX hR
            go_wp2_with fail
            refine HR.out.mono ?_
            rintro e w3 ⟨⟨q, rfl, hq⟩, n3⟩
            have hq' : q = R := (run_is hq).trans HRe.out.symm
            subst hq'
            clear hq HR HRe
            go_wp2
            go_roundw
            case rel => exact ⟨j + 1, by omega, by go_num, hnb.tr n3⟩
            case measure => simp [intOf]; omega
          · obtain rfl : j = X.length := by omega
            have N3 := Lib.hid (N12.out.tr hnb)
            have FX3 := Lib.hid (FX.out.keep hnb)
            clear hnb FX N12
            go_wp2_with fail
            refine (H3.out (some x) wr (HTB.out _ _ (H.out.below N3.out))).mono ?_
            rintro e w4 ⟨⟨aY, cY, rfl, hfY⟩, n4⟩
            have FY := Lib.hid hfY
            have N4 := Lib.hid (N3.out.tr n4)
            have FX4 := Lib.hid (FX3.out.keep n4)
            clear hfY n4 N3 FX3
            have hA : (aX = none ∧ cX = 0 ∧ Y.length = 0) ∨ ∃ x, aX = some x := by
              cases aX with
              | none =>
                have h1 := FX4.out.bs.1.nil_of
                rw [h1] at hYX
                exact .inl ⟨rfl, FX4.out.bs.2 rfl, by simpa using hYX⟩
              | some x => exact .inr ⟨x, rfl⟩
            have hsm : ∀ w', Nb w4 w' → Calls Try.prog 17 #[.slice aY Y.length cY, .slice aX Y.length cX] w' fun e w'' => e = .returned (.bool true) ∧ Nb w' w'' := fun w' hn => by
              have := same_any aY aX cY cX Y (X.take Y.length) w' (FY.out.bs.1.below hn) ((FX4.out.bs.1.below hn).head Y.length)
              rw [← HB.out] at this
              simpa using this
            have HSM := Lib.hid hsm
            clear hsm FY FX4
            rcases hA with ⟨rfl, rfl, hY0⟩ | ⟨x2, rfl⟩
            · obtain rfl := List.eq_nil_of_length_eq_zero hY0
              clear hY0
              go_wp2_with fail
              refine (HSM.out _ Nb.rfl).mono ?_
              rintro e w5 ⟨rfl, n5⟩
              go_wp2
              go_ret
              exact ⟨rfl, N4.out.tr n5⟩
            · go_wp2_with fail
              refine (HSM.out _ Nb.rfl).mono ?_
              rintro e w5 ⟨rfl, n5⟩
              go_wp2
              go_ret
              exact ⟨rfl, N4.out.tr n5⟩
    · have hq1 := hq1 (by omega)
      have hq2 := hq2 (by omega)
      have hl0b : ((l.length : Int) == 0) = false := by rw [beq_eq_false_iff_ne]; omega
      have hl1 : 1 ≤ l.length := by omega
      have d2 : decide ((X.length : Int) ≤ (l.length : Int) + (q : Int)) = true := by simp; omega
      rcases hA0 with ⟨_, _, h0⟩ | ⟨x, rfl⟩
      · exact absurd h0 hl0
      · clear nm0 hl0
        go_enter Try.func6, Try.ntmps6
        go_wp2_with fail
        refine (alive3_any w).mono ?_
        rintro e w1 ⟨rfl, n1⟩
        go_wp2_with fail
        refine (check_ok _ _ _ _ (H.out.below n1) HC.out).mono ?_
        rintro e w2 ⟨rfl, rfl⟩
        go_wp2_with fail
        refine (H1.out _ (H.out.below n1)).mono ?_
        rintro e w2 ⟨⟨aX, cX, rfl, hfX⟩, n2⟩
        have FX := Lib.hid hfX
        have N12 := Lib.hid (n1.tr n2)
        have hXc := hfX.bs.1.hcap
        have hXm := hfX.bs.1.hmax
        unfold maxLen at hXm
        clear hfX n1 n2
        go_wp2
        go_loopw [30] (fun i wr => ∃ j : Nat, j ≤ X.length ∧ i = .int .i64 j ∧ Nb w2 wr) (fun i _ => X.length - (intOf i).toNat)
        case atStart => exact ⟨0, Nat.zero_le _, rfl, Nb.rfl⟩
        case round =>
          obtain ⟨j, hj, rfl, hnb⟩ := hrel
          by_cases hlt : j < X.length
          · obtain ⟨bX, oX, rfl, _⟩ := FX.out.bs.1.hcells (by omega)
            have hrun := run_any (some ⟨bX, oX, none⟩) cX (X.take (j + 1)) wr ((FX.out.bs.1.below hnb).head (j + 1))
            have hlX : (X.take (j + 1)).length = j + 1 := by rw [List.length_take]; omega
            have hle := HRun.out (j + 1)
            rw [hlX] at hrun
            have HR := Lib.hid hrun
            obtain ⟨R, hR⟩ : ∃ R, R = (runS (X.take (j + 1))).2 := ⟨_, rfl⟩
            have HRe := Lib.hid hR
            rw [← hR] at hle
            clear hrun hlX hR
            go_wp2_with fail
            refine HR.out.mono ?_
            rintro e w3 ⟨⟨q, rfl, hq⟩, n3⟩
            have hq' : q = R := (run_is hq).trans HRe.out.symm
            subst hq'
            clear hq HR HRe
            go_wp2
            go_roundw
            case rel => exact ⟨j + 1, by omega, by go_num, hnb.tr n3⟩
            case measure => simp [intOf]; omega
          · obtain rfl : j = X.length := by omega
            have N3 := Lib.hid (N12.out.tr hnb)
            have FX3 := Lib.hid (FX.out.keep hnb)
            clear hnb FX N12
            go_wp2_with fail
            refine (H3.out (some x) wr (HTB.out _ _ (H.out.below N3.out))).mono ?_
            rintro e w4 ⟨⟨aY, cY, rfl, hfY⟩, n4⟩
            have FY := Lib.hid hfY
            have N4 := Lib.hid (N3.out.tr n4)
            have FX4 := Lib.hid (FX3.out.keep n4)
            clear hfY n4 N3 FX3
            have hA : (aX = none ∧ cX = 0 ∧ Y.length = 0) ∨ ∃ x, aX = some x := by
              cases aX with
              | none =>
                have h1 := FX4.out.bs.1.nil_of
                rw [h1] at hYX
                exact .inl ⟨rfl, FX4.out.bs.2 rfl, by simpa using hYX⟩
              | some x => exact .inr ⟨x, rfl⟩
            have hsm : ∀ w', Nb w4 w' → Calls Try.prog 17 #[.slice aY Y.length cY, .slice aX Y.length cX] w' fun e w'' => e = .returned (.bool true) ∧ Nb w' w'' := fun w' hn => by
              have := same_any aY aX cY cX Y (X.take Y.length) w' (FY.out.bs.1.below hn) ((FX4.out.bs.1.below hn).head Y.length)
              rw [← HB.out] at this
              simpa using this
            have HSM := Lib.hid hsm
            clear hsm FY FX4
            rcases hA with ⟨rfl, rfl, hY0⟩ | ⟨x2, rfl⟩
            · obtain rfl := List.eq_nil_of_length_eq_zero hY0
              clear hY0
              go_wp2_with fail
              refine (HSM.out _ Nb.rfl).mono ?_
              rintro e w5 ⟨rfl, n5⟩
              go_wp2
              go_ret
              exact ⟨rfl, N4.out.tr n5⟩
            · go_wp2_with fail
              refine (HSM.out _ Nb.rfl).mono ?_
              rintro e w5 ⟨rfl, n5⟩
              go_wp2
              go_ret
              exact ⟨rfl, N4.out.tr n5⟩

/-! ### THE ROW's STEP: WRITTEN OUT: LEAVE IT -/
set_option maxRecDepth 100000 in
theorem lifted (os : Os) (started : os.Started) (H : Type) (enc : TypeId × Value → H) :
    ReturnsInHanded {} Try.checked os 6 .any (Rows.stuffRunsSpec.pre6 enc Try.prog Try.f6 Rows.stuffRunsRow.domain false) (Rows.stuffRunsSpec.post enc Try.prog Try.f6 false true false false) := by
  refine returnsInHanded_of_change (C := Try.checked) own started (by kernel_rfl) Try.func6
    (ChangeSpec.witness6 (enc := enc) (C := Try.checked) false ⟨#[], #[.slice none 0 0, .int .u16 0], []⟩ 8 (by kernel_rfl) (by kernel_rfl) (by kernel_rfl) (by kernel_rfl)) ?_
  intro W base args ds gs before hval0 hW hcnd _
  have hval : ∀ (j : Nat) t v, Try.f6.params[j]? = some t → args[j]? = some v → Value.okWide Try.prog W .any base t v := hval0
  have hW' := hW
  obtain ⟨p, q, hA0, hV, rfl, hfz, hnd⟩ := hW
  have hA : DataW.TrodAll enc Try.prog W 0 (fun _ => true) true Try.f6.params.toList args.toList ds p := hA0
  rw [Try.params6] at hA hval
  obtain ⟨v0, vs0, d0, ds0, p0, q0, hargs, rfl, rfl, h0, r0⟩ := trodAll_cons hA
  obtain ⟨v1, vs1, d1, ds1, p1, q1, rfl, rfl, rfl, h1, r1⟩ := trodAll_cons r0
  obtain ⟨rfl, rfl, rfl⟩ := trodAll_nil r1
  obtain rfl : args = #[v0, v1] := by cases args; simp_all
  obtain ⟨rfl, rfl⟩ := trodVars_none hV
  obtain ⟨a0, len0, cap0, rfl⟩ := okWide_slice Try.underlying22 (hval 0 22 v0 rfl rfl)
  have k0 := h0
  have lt0 : ∀ x ∈ p0, x.block < W.heap.size := by obtain ⟨m, hm⟩ := k0; exact DataW.trod_lt m _ _ _ hm
  obtain ⟨z0, w0⟩ : ∃ zs, IsRow .u8 W a0 len0 cap0 zs := by
    obtain ⟨fuel, hf⟩ := h0
    rcases open_ints Try.underlying22 Try.underlying5 (by kernel_rfl) hf with ⟨hcs, _⟩ | ⟨x, l, c, zs, hcs, _, hl, hm, hz, _, hcell, hwz⟩
    · simp [Value.cells] at hcs
      obtain ⟨rfl, rfl, rfl⟩ := hcs
      exact ⟨[], .inl ⟨rfl, rfl, rfl, rfl⟩⟩
    · simp [Value.cells] at hcs
      obtain ⟨rfl, rfl, rfl⟩ := hcs
      exact ⟨zs, .inr ⟨_, rfl, hl, hm, by simpa using hz, hcell, hwz⟩⟩
  obtain ⟨a1, rfl, rfl, rfl, w1⟩ := open_int Try.underlying35 (hval 1 35 v1 rfl rfl) h1
  clear hA0 hval0
  refine (walk a0 len0 cap0 z0 a1 W w0 w1).mono fun e W' ⟨he, bel⟩ => ?_
  subst he
  exact ⟨_, rfl, _, _, _, [], _, [], hW', trodAll_mk1 (shut_bool Try.underlying4 _), (trodAll_cons_mk (Below.trod laidOut (by kernel_rfl) (of_decide_eq_true (by kernel_rfl)) k0 bel lt0) (trodAll_cons_mk (shut_int Try.underlying35 w1) trodAll_mk0)), rfl, bel.frame _, fun h => by cases h⟩

theorem over : Rows.stuffRunsRow.holds Try.pinned (OpenSpec.ofChange Rows.stuffRunsSpec) :=
  OpenClaim.holds_of_wide 6 Try.f6 rfl rfl rfl rfl rfl rfl rfl ⟨rfl, rfl, rfl, rfl, rfl⟩ rfl rfl rfl rfl rfl (by kernel_rfl) Try.func6 (by kernel_rfl)
    (of_decide_eq_true (by kernel_rfl)) (by unfold Func.isWrapper; first | (rw [if_pos (by decide +kernel)]; kernel_rfl) | (rw [if_neg (by decide +kernel)]; exact ⟨rfl, rfl⟩))
    (fun os started H enc _ => lifted os started H enc)

/-- ████ THE STATEMENT ████ -/
theorem proved : Rows.StuffRunsSaid := over
#print axioms proved
end Go.Proofs.Ytboobohcnlggnaa.stuffRuns
