/- For every row and number the law StuffSix answers true and leaves its arguments as they were. No conditions. -/
import Derived.Test.YtboobohcnlggnaaRows
import Derived.Test.YtboobohcnlggnaaStfL
import Derived.WalkKit
import Derived.ProofKit
import Derived.OpenShut
import Derived.ShutString
import Derived.ChangeOld
import Derived.Below
namespace Go.Proofs.Ytboobohcnlggnaa.stuffSix
open Go.ChangeShapes Go.WideShapes Go.ChangeAt Go.RowKit
open Go.ChangeMaps (open_string shut_string)
set_option linter.unusedVariables false

theorem own : ownKnob Try.prog.godebug = none := by kernel_rfl
theorem laidOut : laidOutB Try.prog = true := by kernel_rfl

/-- WHAT THE WALK IS TOLD OF A SLICE OF INTEGERS THAT CAME IN: it is nil; or it leads to a row of 'cap' cells, the numbers 'zs' (the first 'len' are its elements, the rest its spare room), each fitting its kind. -/
def IsRow (k : IntKind) (w : World) (a : Option Addr) (len cap : Nat) (zs : List Int) : Prop :=
  (a = none ∧ len = 0 ∧ cap = 0 ∧ zs = []) ∨
  ∃ x, a = some x ∧ len ≤ cap ∧ cap ≤ maxLen ∧ zs.length = cap ∧ (∀ i, i < zs.length → w.cell? (x.add i) = some (.int k (zs.getD i 0))) ∧ ∀ n ∈ zs, (Lit.int k n).wf = true

set_option maxHeartbeats 2000000 in
set_option maxRecDepth 100000 in
theorem walk (a0 : Option Addr) (len0 cap0 : Nat) (z0 : List Int) (a1 : Int) (w : World) (w0 : IsRow .u8 w a0 len0 cap0 z0) (w1 : (Lit.int .u16 a1).wf = true) :
    Calls Try.prog 8 #[.slice a0 len0 cap0, .int .u16 a1] w fun e w' => e = .returned (.bool true) ∧ Below w.heap.size w w' := by
-- For every row and number the law StuffSix answers true and leaves its arguments as they were. No conditions.
  obtain ⟨l, rfl, h⟩ := Bs.ofRow w0
  have hL := h.len
  have hcap := h.hcap
  have hcm := h.hmax
  unfold maxLen at hcm
  have H := Lib.hid h
  clear h w0 w1
  by_cases hb1 : 2000 < l.length
  · go_enter Try.func8, Try.ntmps8
    go_wp2_with fail
    refine (alive3_any w).mono ?_
    rintro e w1 ⟨rfl, hnb⟩
    go_wp2
    go_ret
    exact ⟨rfl, hnb⟩
  have s1 : decide (2000 < (l.length : Int)) = false := by simp; omega
  cases hc1 : chk l with
  | false =>
    have HC := Lib.hid hc1
    clear hc1
    go_enter Try.func8, Try.ntmps8
    go_wp2_with fail
    refine (alive3_any w).mono ?_
    rintro e w1 ⟨rfl, hnb⟩
    go_wp2_with fail
    refine (check_bad a0 cap0 l _ (H.out.below hnb) HC.out).mono ?_
    rintro e w2 ⟨rfl, rfl⟩
    go_wp2
    go_ret
    exact ⟨rfl, hnb⟩
  | true =>
    have hb1 : l.length ≤ 2000 := by omega
    obtain ⟨p1, p2, p3⟩ := sp_ok hc1 (by omega)
    have hl2 := (putL_len2 l).1
    have hok := okS_putL (chk_bit hc1)
    have hfull := fun h => putL_full (chk_bit hc1) h
    have hfive := full_five hok
    have hturn := fun i h1 h2 => turned_err p3 hok (i := i) h1 h2
    have hbX := chk_bit p3
    have hsix := fun i h => six_err hc1 (i := i) h
    have h1 := fun w hb => sput_u a0 cap0 l w hb
    rw [p1, p2] at h1
    obtain ⟨X, hX⟩ : ∃ X, X = putL l := ⟨_, rfl⟩
    rw [← hX] at h1 hl2 hfull hfive hturn hbX
    have hXl : X.length ≤ 4000 := by omega
    have H1 := Lib.hid h1
    have HC := Lib.hid hc1
    have HFu := Lib.hid hfull
    have HFi := Lib.hid hfive
    have HTu := Lib.hid hturn
    have HBX := Lib.hid hbX
    have HSx := Lib.hid hsix
    clear h1 hc1 hfull hfive hturn hbX hsix p1 p2 p3 hl2 hok hX
    go_enter Try.func8, Try.ntmps8
    go_wp2_with fail
    refine (alive3_any w).mono ?_
    rintro e w1 ⟨rfl, n1⟩
    go_wp2_with fail
    refine (check_ok _ _ _ _ (H.out.below n1) HC.out).mono ?_
    rintro e w2 ⟨rfl, rfl⟩
    go_wp2
    go_loopw [27] (fun i wr => ∃ j : Nat, j ≤ l.length ∧ i = .int .i64 j ∧ Nb w1 wr) (fun i _ => l.length - (intOf i).toNat)
    case atStart => exact ⟨0, Nat.zero_le _, rfl, Nb.rfl⟩
    case round =>
      obtain ⟨j, hj, rfl, hnb⟩ := hrel
      by_cases hlt : j < l.length
      · obtain ⟨bX, oX, rfl, _⟩ := H.out.hcells (by omega)
        have hrun := run_any (some ⟨bX, oX, none⟩) cap0 (l.take (j + 1)) wr ((H.out.below (n1.tr hnb)).head (j + 1))
        have hlX : (l.take (j + 1)).length = j + 1 := by rw [List.length_take]; omega
        rw [hlX] at hrun
        have HR := Lib.hid hrun
        obtain ⟨R, hR⟩ : ∃ R, R = (runS (l.take (j + 1))).2 := ⟨_, rfl⟩
        have hRl : R ≤ 2000 := by have := full_len (l.take (j + 1)); omega
        have HRe := Lib.hid hR
        clear hrun hlX hR
        go_wp2_with fail
        refine HR.out.mono ?_
        rintro e w3 ⟨⟨q, rfl, hq⟩, n3⟩
        have hq' : q = R := (run_is hq).trans HRe.out.symm
        subst hq'
        clear hq HR
        by_cases h6 : q = 6
        · have hd : ((q : Int) == 6) = true := by rw [beq_iff_eq]; omega
          have he := HSx.out (j + 1) (by rw [← HRe.out]; exact h6)
          have hg := sget_u (some ⟨bX, oX, none⟩) cap0 l w3 (H.out.below ((n1.tr hnb).tr n3))
          rw [he] at hg
          have HG := Lib.hid hg
          clear hg he h6
          go_wp2_with fail
          refine HG.out.mono ?_
          rintro e w4 ⟨⟨aG, cG, rfl, hfG⟩, n4⟩
          clear hfG HG
          go_wp2
          go_roundw
          case rel => exact ⟨j + 1, by omega, by go_num, (hnb.tr n3).tr n4⟩
          case measure => simp [intOf]; omega
        · have hd : ((q : Int) == 6) = false := by rw [beq_eq_false_iff_ne]; omega
          clear h6
          go_wp2
          go_roundw
          case rel => exact ⟨j + 1, by omega, by go_num, hnb.tr n3⟩
          case measure => simp [intOf]; omega
      · obtain rfl : j = l.length := by omega
        have N1 := Lib.hid (n1.tr hnb)
        clear hnb n1
        go_wp2_with fail
        refine (H1.out _ (H.out.below N1.out)).mono ?_
        rintro e w2 ⟨⟨aX, cX, rfl, hfX⟩, n2⟩
        have FX := Lib.hid hfX
        have N2 := Lib.hid (N1.out.tr n2)
        have hs1 := N1.out.size
        clear hfX n2 N1
        by_cases hlen : X.length = l.length
        · have hd : ((X.length : Int) == (l.length : Int)) = true := by rw [beq_iff_eq]; omega
          clear hlen
          go_wp2
          go_ret
          exact ⟨rfl, N2.out⟩
        · have hd : ((X.length : Int) == (l.length : Int)) = false := by rw [beq_eq_false_iff_ne]; omega
          have hex := HFu.out hlen
          have HEx := Lib.hid hex
          clear hlen hex HFu
          go_wp2
          go_loopw [62] (fun i wr => ∃ j : Nat, j ≤ X.length ∧ i = .int .i64 j ∧ Nb w2 wr ∧ ∀ m, m < j → full (X.take m) = false) (fun i _ => X.length - (intOf i).toNat)
          case atStart => exact ⟨0, Nat.zero_le _, rfl, Nb.rfl, fun m hm => absurd hm (Nat.not_lt_zero _)⟩
          case round =>
            obtain ⟨j, hj, rfl, hnb, hno⟩ := hrel
            have HNo := Lib.hid hno
            clear hno
            by_cases hlt : j < X.length
            · by_cases h5 : 5 ≤ j
              · have d5 : decide (5 ≤ (j : Int)) = true := by simp; omega
                obtain ⟨g, cg, hv⟩ := FX.out.1.shape (by omega)
                simp only [Value.slice.injEq, true_and] at hv
                obtain ⟨rfl, rfl⟩ := hv
                have hrun := run_any (some ⟨g, 0, none⟩) cX (X.take j) wr ((FX.out.bs.1.below hnb).head j)
                have hlX : (X.take j).length = j := by rw [List.length_take]; omega
                have hXc := FX.out.bs.1.hcap
                have hXm := FX.out.bs.1.hmax
                unfold maxLen at hXm
                rw [hlX] at hrun
                have HR := Lib.hid hrun
                obtain ⟨R, hR⟩ : ∃ R, R = (runS (X.take j)).2 := ⟨_, rfl⟩
                have hRl : R ≤ 4000 := by have := full_len (X.take j); omega
                have HRe := Lib.hid hR
                clear hrun hlX hR
                go_wp2_with fail
                refine HR.out.mono ?_
                rintro e w3 ⟨⟨q, rfl, hq⟩, n3⟩
                have hq' : q = R := (run_is hq).trans HRe.out.symm
                subst hq'
                clear hq HR
                by_cases h6 : q = 5
                · have hd5 : ((q : Int) == 5) = true := by rw [beq_iff_eq]; omega
                  have hf : full (X.take j) = true := (HFi.out j).1 (by rw [← HRe.out]; exact h6)
                  obtain ⟨t1, t2, t3⟩ := HTu.out j hlt hf
                  have FX3 := FX.out.keep (hnb.tr n3)
                  have c0 := FX3.1.cell j hlt
                  have f0 := FX3.1.frozen (g := g) rfl j
                  have hv1 : X.getD j 0 ≤ 1 := HBX.out _ (List.mem_of_getElem? (i := j) (by simp [List.getD, List.getElem?_eq_getElem hlt]))
                  have hset := FX3.1.setByte (g := g) rfl j hlt (X.getD j 0 ^^^ 1) (by have := xor1_le _ hv1; omega)
                  have hxor := xor1 _ hv1
                  obtain ⟨XS, hXS⟩ : ∃ XS, XS = X.set j (X.getD j 0 ^^^ 1) := ⟨_, rfl⟩
                  have hXSl : XS.length = X.length := by rw [hXS, List.length_set]
                  rw [← hXS] at t1 t2 t3 hset
                  have hgR := FX3.2 g rfl
                  obtain ⟨a', c', hv', hbs, _⟩ := hset.bs
                  rw [hXSl] at hv'
                  simp only [Value.slice.injEq, true_and] at hv'
                  obtain ⟨rfl, rfl⟩ := hv'
                  have h2 := fun w hb => sget_u (some ⟨g, 0, none⟩) cX XS w hb
                  have h3 := fun w hb => scount_u (some ⟨g, 0, none⟩) cX XS w hb
                  rw [t1, t2, hXSl] at h2
                  rw [t3, hXSl] at h3
                  obtain ⟨y, hy⟩ : ∃ y, y = X.getD j 0 ^^^ 1 := ⟨_, rfl⟩
                  rw [← hy] at hbs hxor
                  obtain ⟨v, hv⟩ : ∃ v, v = X.getD j 0 := ⟨_, rfl⟩
                  rw [← hv] at c0 hxor
                  have nbW : Nb w (w3.setCell ⟨g, j, none⟩ (.int .u8 (y : Int))) := ((N2.out.tr hnb).tr n3).st (by simp only; omega) _
                  obtain ⟨sn, hsn⟩ : ∃ sn, sn = scN XS := ⟨_, rfl⟩
                  rw [← hsn] at h3
                  have H2 := Lib.hid h2
                  have H3 := Lib.hid h3
                  have HBS := Lib.hid hbs
                  have NW := Lib.hid nbW
                  have HXO := Lib.hid hxor
                  clear h2 h3 hbs nbW hset t1 t2 t3 hXS hy hv FX3 hf h6 hv1 hsn hXSl hnb n3 hgR HRe hxor
                  go_wp2_with fail
                  rw [HXO.out]
                  refine (H2.out _ HBS.out).mono ?_
                  rintro e w4 ⟨⟨aY, cY, rfl, hfY⟩, n4⟩
                  have NW4 := Lib.hid (NW.out.tr n4)
                  have HB4 := Lib.hid (HBS.out.below n4)
                  clear hfY n4 NW HBS
                  go_wp2_with fail
                  refine (H3.out _ HB4.out).mono ?_
                  rintro e w5 ⟨rfl, n5⟩
                  go_wp2
                  go_ret
                  exact ⟨rfl, NW4.out.tr n5⟩
                · have hd5 : ((q : Int) == 5) = false := by rw [beq_eq_false_iff_ne]; omega
                  have hf : full (X.take j) = false := by
                    cases hf : full (X.take j) with
                    | false => rfl
                    | true => exact absurd (HRe.out.trans ((HFi.out j).2 hf)) h6
                  have HF := Lib.hid hf
                  clear hf h6
                  go_wp2
                  go_roundw
                  case rel => exact ⟨j + 1, by omega, by go_num, hnb.tr n3, fun m hm => by
                    rcases Nat.lt_succ_iff_lt_or_eq.1 hm with h | rfl
                    · exact HNo.out m h
                    · exact HF.out⟩
                  case measure => simp [intOf]; omega
              · have d5 : decide (5 ≤ (j : Int)) = false := by simp; omega
                have hf : full (X.take j) = false := by
                  cases hf : full (X.take j) with
                  | false => rfl
                  | true =>
                    have := full_pos hf
                    rw [List.length_take] at this
                    omega
                have HF := Lib.hid hf
                clear hf
                go_wp2
                go_roundw
                case rel => exact ⟨j + 1, by omega, by go_num, hnb, fun m hm => by
                  rcases Nat.lt_succ_iff_lt_or_eq.1 hm with h | rfl
                  · exact HNo.out m h
                  · exact HF.out⟩
                case measure => simp [intOf]; omega
            · obtain ⟨m, hm1, hm2⟩ := HEx.out
              rw [HNo.out m (by omega)] at hm2
              cases hm2

/-! ### THE ROW's STEP: WRITTEN OUT: LEAVE IT -/
set_option maxRecDepth 100000 in
theorem lifted (os : Os) (started : os.Started) (H : Type) (enc : TypeId × Value → H) :
    ReturnsInHanded {} Try.checked os 8 .any (Rows.stuffSixSpec.pre6 enc Try.prog Try.f8 Rows.stuffSixRow.domain false) (Rows.stuffSixSpec.post enc Try.prog Try.f8 false true false false) := by
  refine returnsInHanded_of_change (C := Try.checked) own started (by kernel_rfl) Try.func8
    (ChangeSpec.witness6 (enc := enc) (C := Try.checked) false ⟨#[], #[.slice none 0 0, .int .u16 0], []⟩ 8 (by kernel_rfl) (by kernel_rfl) (by kernel_rfl) (by kernel_rfl)) ?_
  intro W base args ds gs before hval0 hW hcnd _
  have hval : ∀ (j : Nat) t v, Try.f8.params[j]? = some t → args[j]? = some v → Value.okWide Try.prog W .any base t v := hval0
  have hW' := hW
  obtain ⟨p, q, hA0, hV, rfl, hfz, hnd⟩ := hW
  have hA : DataW.TrodAll enc Try.prog W 0 (fun _ => true) true Try.f8.params.toList args.toList ds p := hA0
  rw [Try.params8] at hA hval
  obtain ⟨v0, vs0, d0, ds0, p0, q0, hargs, rfl, rfl, h0, r0⟩ := trodAll_cons hA
  obtain ⟨v1, vs1, d1, ds1, p1, q1, rfl, rfl, rfl, h1, r1⟩ := trodAll_cons r0
  obtain ⟨rfl, rfl, rfl⟩ := trodAll_nil r1
  obtain rfl : args = #[v0, v1] := by cases args; simp_all
  obtain ⟨rfl, rfl⟩ := trodVars_none hV
  obtain ⟨a0, len0, cap0, rfl⟩ := okWide_slice Try.underlying22 (hval 0 22 v0 rfl rfl)
  have k0 := h0
  have lt0 : ∀ x ∈ p0, x.block < W.heap.size := by obtain ⟨m, hm⟩ := k0; exact DataW.trod_lt m _ _ _ hm
  obtain ⟨z0, w0⟩ : ∃ zs, IsRow .u8 W a0 len0 cap0 zs := by
    obtain ⟨fuel, hf⟩ := h0
    rcases open_ints Try.underlying22 Try.underlying5 (by kernel_rfl) hf with ⟨hcs, _⟩ | ⟨x, l, c, zs, hcs, _, hl, hm, hz, _, hcell, hwz⟩
    · simp [Value.cells] at hcs
      obtain ⟨rfl, rfl, rfl⟩ := hcs
      exact ⟨[], .inl ⟨rfl, rfl, rfl, rfl⟩⟩
    · simp [Value.cells] at hcs
      obtain ⟨rfl, rfl, rfl⟩ := hcs
      exact ⟨zs, .inr ⟨_, rfl, hl, hm, by simpa using hz, hcell, hwz⟩⟩
  obtain ⟨a1, rfl, rfl, rfl, w1⟩ := open_int Try.underlying35 (hval 1 35 v1 rfl rfl) h1
  clear hA0 hval0
  refine (walk a0 len0 cap0 z0 a1 W w0 w1).mono fun e W' ⟨he, bel⟩ => ?_
  subst he
  exact ⟨_, rfl, _, _, _, [], _, [], hW', trodAll_mk1 (shut_bool Try.underlying4 _), (trodAll_cons_mk (Below.trod laidOut (by kernel_rfl) (of_decide_eq_true (by kernel_rfl)) k0 bel lt0) (trodAll_cons_mk (shut_int Try.underlying35 w1) trodAll_mk0)), rfl, bel.frame _, fun h => by cases h⟩

theorem over : Rows.stuffSixRow.holds Try.pinned (OpenSpec.ofChange Rows.stuffSixSpec) :=
  OpenClaim.holds_of_wide 8 Try.f8 rfl rfl rfl rfl rfl rfl rfl ⟨rfl, rfl, rfl, rfl, rfl⟩ rfl rfl rfl rfl rfl (by kernel_rfl) Try.func8 (by kernel_rfl)
    (of_decide_eq_true (by kernel_rfl)) (by unfold Func.isWrapper; first | (rw [if_pos (by decide +kernel)]; kernel_rfl) | (rw [if_neg (by decide +kernel)]; exact ⟨rfl, rfl⟩))
    (fun os started H enc _ => lifted os started H enc)

/-- ████ THE STATEMENT ████ -/
theorem proved : Rows.StuffSixSaid := over
#print axioms proved
end Go.Proofs.Ytboobohcnlggnaa.stuffSix
