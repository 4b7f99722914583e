/- For every two rows and number the law StuffParts answers true and leaves its arguments as they were. No conditions. -/
import Derived.Test.YtboobohcnlggnaaRows
import Derived.Test.YtboobohcnlggnaaStfL
import Derived.WalkKit
import Derived.ProofKit
import Derived.OpenShut
import Derived.ShutString
import Derived.ChangeOld
import Derived.Below
namespace Go.Proofs.Ytboobohcnlggnaa.stuffParts
open Go.ChangeShapes Go.WideShapes Go.ChangeAt Go.RowKit
open Go.ChangeMaps (open_string shut_string)
set_option linter.unusedVariables false

theorem own : ownKnob Try.prog.godebug = none := by kernel_rfl
theorem laidOut : laidOutB Try.prog = true := by kernel_rfl

/-- WHAT THE WALK IS TOLD OF A SLICE OF INTEGERS THAT CAME IN: it is nil; or it leads to a row of 'cap' cells, the numbers 'zs' (the first 'len' are its elements, the rest its spare room), each fitting its kind. -/
def IsRow (k : IntKind) (w : World) (a : Option Addr) (len cap : Nat) (zs : List Int) : Prop :=
  (a = none ∧ len = 0 ∧ cap = 0 ∧ zs = []) ∨
  ∃ x, a = some x ∧ len ≤ cap ∧ cap ≤ maxLen ∧ zs.length = cap ∧ (∀ i, i < zs.length → w.cell? (x.add i) = some (.int k (zs.getD i 0))) ∧ ∀ n ∈ zs, (Lit.int k n).wf = true

set_option maxHeartbeats 2000000 in
set_option maxRecDepth 100000 in
theorem walk (a0 : Option Addr) (len0 cap0 : Nat) (z0 : List Int) (a1 : Option Addr) (len1 cap1 : Nat) (z1 : List Int) (a2 : Int) (w : World) (w0 : IsRow .u8 w a0 len0 cap0 z0) (w1 : IsRow .u8 w a1 len1 cap1 z1) (w2 : (Lit.int .u16 a2).wf = true) :
    Calls Try.prog 7 #[.slice a0 len0 cap0, .slice a1 len1 cap1, .int .u16 a2] w fun e w' => e = .returned (.bool true) ∧ Below w.heap.size w w' := by
-- For every two rows and number the law StuffParts answers true and leaves its arguments as they were. No conditions.
  have nm1 : a1 = none → cap1 = 0 := by
    rintro rfl
    rcases w1 with ⟨_, _, h, _⟩ | ⟨x, h, _⟩
    · exact h
    · cases h
  have nm0 : a0 = none → cap0 = 0 := by
    rintro rfl
    rcases w0 with ⟨_, _, h, _⟩ | ⟨x, h, _⟩
    · exact h
    · cases h
  obtain ⟨l, rfl, h⟩ := Bs.ofRow w0
  obtain ⟨r, rfl, h'⟩ := Bs.ofRow w1
  obtain ⟨t, rfl, ht⟩ := u16_of_wf w2
  have hL := h.len
  have hR := h'.len
  have hcap := h.hcap
  have hcm := h.hmax
  unfold maxLen at hcm
  have H := Lib.hid h
  have H' := Lib.hid h'
  clear h h' w0 w1 w2
  by_cases hb1 : 2000 < l.length
  · go_enter Try.func7, Try.ntmps7
    go_wp2_with fail
    refine (alive3_any w).mono ?_
    rintro e w1 ⟨rfl, hnb⟩
    go_wp2
    go_ret
    exact ⟨rfl, hnb⟩
  by_cases hb2 : 2000 < r.length
  · go_enter Try.func7, Try.ntmps7
    go_wp2_with fail
    refine (alive3_any w).mono ?_
    rintro e w1 ⟨rfl, hnb⟩
    go_wp2
    go_ret
    exact ⟨rfl, hnb⟩
  cases hc1 : chk l with
  | false =>
    have HC := Lib.hid hc1
    clear hc1
    go_enter Try.func7, Try.ntmps7
    go_wp2_with fail
    refine (alive3_any w).mono ?_
    rintro e w1 ⟨rfl, hnb⟩
    go_wp2_with fail
    refine (check_bad a0 cap0 l _ (H.out.below hnb) HC.out).mono ?_
    rintro e w2 ⟨rfl, rfl⟩
    go_wp2
    go_ret
    exact ⟨rfl, hnb⟩
  | true =>
    cases hc2 : chk r with
    | false =>
      have HC := Lib.hid hc1
      have HC2 := Lib.hid hc2
      clear hc1 hc2
      go_enter Try.func7, Try.ntmps7
      go_wp2_with fail
      refine (alive3_any w).mono ?_
      rintro e w1 ⟨rfl, hnb⟩
      go_wp2_with fail
      refine (check_ok a0 cap0 l _ (H.out.below hnb) HC.out).mono ?_
      rintro e w2 ⟨rfl, rfl⟩
      go_wp2_with fail
      refine (check_bad a1 cap1 r _ (H'.out.below hnb) HC2.out).mono ?_
      rintro e w2 ⟨rfl, rfl⟩
      go_wp2
      go_ret
      exact ⟨rfl, hnb⟩
    | true =>
      have hb1 : l.length ≤ 2000 := by omega
      have hb2 : r.length ≤ 2000 := by omega
      obtain ⟨k, hk⟩ : ∃ k, k = t % (l.length + 1) := ⟨_, rfl⟩
      have hkl : k ≤ l.length := by rw [hk]; exact Nat.lt_succ_iff.1 (Nat.mod_lt _ (by omega))
      have hk1 : (t : Int).tmod ((l.length : Int) + 1) = (k : Int) := by rw [hk]; push_cast; exact Int.tmod_eq_emod_of_nonneg (by omega)
      have hk2 : (t : Int) % ((l.length : Int) + 1) = (k : Int) := by rw [hk]; push_cast; rfl
      have hlT : (l.take k).length = k := by rw [List.length_take]; omega
      have hcT : chk (l.take k) = true := chk_of (fun x hx => chk_bit hc1 x (List.mem_of_mem_take hx)) (by omega)
      obtain ⟨p1, p2, p3⟩ := sp_ok hc1 (by omega)
      obtain ⟨q1, q2, q3⟩ := sp_ok hcT (by omega)
      obtain ⟨t1, t2, t3⟩ := take_parts hc1 hc2 hb1 hb2 hkl
      have hl2 := (putL_len2 l).1
      have hy2 := (putL_len2 (l.take k)).1
      have h1 := fun w hb => sput_u a0 cap0 l w hb
      rw [p1, p2] at h1
      have h2 := fun a c w hb => stake_u a c (putL l ++ r) (k : Int) w hb
      rw [t1, t2, t3] at h2
      have h3 := fun a w hb => sput_u a cap0 (l.take k) w hb
      rw [q1, q2, hlT] at h3
      obtain ⟨X, hX⟩ : ∃ X, X = putL l := ⟨_, rfl⟩
      obtain ⟨Y, hY⟩ : ∃ Y, Y = putL (l.take k) := ⟨_, rfl⟩
      obtain ⟨T, hT⟩ : ∃ T, T = l.take k := ⟨_, rfl⟩
      rw [← hX] at h1 h2 hl2
      rw [← hY] at h2 h3 hy2
      rw [← hT] at h2 h3 hy2 hlT
      obtain ⟨Z, hZ⟩ : ∃ Z, Z = X ++ r := ⟨_, rfl⟩
      rw [← hZ] at h2
      have HZ := Lib.hid hZ
      clear hZ
      have hTl : T.length ≤ 2000 := by omega
      have hXl : X.length ≤ 4000 := by omega
      have hYl : Y.length ≤ 4000 := by omega
      have HT : ∀ w' a, Bs w' a cap0 l → Bs w' a cap0 T := fun w' a hb => by rw [hT]; exact hb.head k
      have H1 := Lib.hid h1
      have H2 := Lib.hid h2
      have H3 := Lib.hid h3
      have HTL := Lib.hid hlT
      have HC := Lib.hid hc1
      have HC2 := Lib.hid hc2
      have HTB := Lib.hid HT
      have HTN : Hid (∀ w', Bs w' none 0 [] ) := Lib.hid Bs.nil
      have s1 : decide (2000 < (l.length : Int)) = false := by simp; omega
      have s2 : decide (2000 < (r.length : Int)) = false := by simp; omega
      have s3 : ((Y.length : Int) == (Y.length : Int)) = true := by simp
      clear h1 h2 h3 hX hY hT hc1 hc2 hcT p1 p2 p3 q1 q2 q3 t1 t2 t3 hl2 hy2 hlT hk HT
      have hA0 : (a0 = none ∧ k = 0 ∧ l.length = 0) ∨ ∃ x, a0 = some x := by
        cases a0 with
        | none =>
          have := H.out.nil_of
          subst this
          exact .inl ⟨rfl, by simpa using hkl, rfl⟩
        | some x => exact .inr ⟨x, rfl⟩
      rcases hA0 with ⟨rfl, rfl, hl0⟩ | ⟨x, rfl⟩
      · obtain rfl := List.eq_nil_of_length_eq_zero hl0
        obtain rfl := nm0 rfl
        clear nm0 hl0
        go_enter Try.func7, Try.ntmps7
        go_wp2_with fail
        refine (alive3_any w).mono ?_
        rintro e w1 ⟨rfl, n1⟩
        go_wp2_with fail
        refine (check_ok _ _ _ _ (H.out.below n1) HC.out).mono ?_
        rintro e w2 ⟨rfl, rfl⟩
        go_wp2_with fail
        refine (check_ok a1 cap1 r _ (H'.out.below n1) HC2.out).mono ?_
        rintro e w2 ⟨rfl, rfl⟩
        go_wp2_with fail
        refine (H1.out _ (H.out.below n1)).mono ?_
        rintro e w2 ⟨⟨aX, cX, rfl, hfX⟩, n2⟩
        have FX := Lib.hid hfX
        have n12 := n1.tr n2
        have N12 := Lib.hid n12
        clear hfX n1 n2 n12
        go_wp2_with (at_builtin; refine wpList_appB _ rfl (.tmp 47) (.tmp 48) rfl _ [] rfl (OwnB.fresh0 _) aX cX X X.length rfl rfl (FX.out.bs.1.below (Nb.rfl.al _)) (by intro h; subst h; exact ⟨by rw [FX.out.bs.1.none_len]; rfl, FX.out.bs.2 rfl⟩) (by simp; omega) ?_)
        intro v1 w3 ho1 hk1 hf1
        have hs12 := N12.out.size
        have fr1 : Fresh w w3 v1 X := ⟨ho1, fun g hg => by
          rcases hf1 g hg with h | h
          · simp [Value.ownBlock] at h
            omega
          · first | omega | (simp at h; omega)⟩
        have nb3 : Nb w w3 := (N12.out.al _).trans (hk1.toBelow (Nat.le_trans hs12 (by simp)) (by intro g hg; simp [Value.ownBlock] at hg; omega))
        obtain ⟨aI, cI, rfl, _⟩ := ho1.bs
        have FI := Lib.hid fr1
        have N3 := Lib.hid nb3
        clear ho1 hk1 hf1 fr1 nb3 hs12 FX
        go_wp2_with (at_builtin; refine wpList_appB _ rfl (.tmp 49) (.tmp 50) rfl _ X rfl FI.out.1 a1 cap1 r r.length rfl rfl (H'.out.below N3.out) (by intro h; subst h; exact ⟨by rw [H'.out.none_len]; rfl, nm1 rfl⟩) (by omega) ?_)
        intro v2 w4 ho2 hk2 hf2
        rw [← HZ.out] at ho2
        have hs3 := N3.out.size
        have fr2 : Fresh w w4 v2 Z := ⟨ho2, fun g hg => by
          rcases hf2 g hg with h | h
          · exact FI.out.2 g h
          · omega⟩
        have nb4 : Nb w w4 := N3.out.trans (hk2.toBelow hs3 FI.out.2)
        obtain ⟨aZ, cZ, rfl, _⟩ := ho2.bs
        have FZ := Lib.hid fr2
        have N4 := Lib.hid nb4
        clear ho2 hk2 hf2 fr2 nb4 hs3 FI N3 N12
        go_wp2_with fail
        refine (H2.out aZ cZ w4 FZ.out.bs.1).mono ?_
        rintro e w5 ⟨⟨aA, cA, rfl, hfA⟩, n5⟩
        have FA := Lib.hid hfA
        have N5 := Lib.hid (N4.out.tr n5)
        clear hfA n5 FZ N4
        have hsm : ∀ w' a, Bs w' aA cA T → Bs w' a 0 T → Calls Try.prog 17 #[.slice aA T.length cA, .slice a 0 0] w' fun e w'' => e = .returned (.bool true) ∧ Nb w' w'' := fun w' a hb hb2 => by
          have := same_any aA a cA 0 T T w' hb hb2
          rw [HTL.out] at this ⊢
          simpa using this
        have HSM := Lib.hid hsm
        clear hsm
        go_wp2_with fail
        refine (HSM.out w5 (none) FA.out.bs.1 (HTB.out _ _ (H.out.below N5.out))).mono ?_
        rintro e w6 ⟨rfl, n6⟩
        have N6 := Lib.hid (N5.out.tr n6)
        clear n6 HSM FA N5
        go_wp2_with fail
        refine (H3.out (none) w6 (HTB.out _ _ (H.out.below N6.out))).mono ?_
        rintro e w7 ⟨⟨aY, cY, rfl, hfY⟩, n7⟩
        clear hfY
        go_wp2
        go_ret
        exact ⟨rfl, N6.out.tr n7⟩
      · clear nm0
        go_enter Try.func7, Try.ntmps7
        go_wp2_with fail
        refine (alive3_any w).mono ?_
        rintro e w1 ⟨rfl, n1⟩
        go_wp2_with fail
        refine (check_ok _ _ _ _ (H.out.below n1) HC.out).mono ?_
        rintro e w2 ⟨rfl, rfl⟩
        go_wp2_with fail
        refine (check_ok a1 cap1 r _ (H'.out.below n1) HC2.out).mono ?_
        rintro e w2 ⟨rfl, rfl⟩
        go_wp2_with fail
        refine (H1.out _ (H.out.below n1)).mono ?_
        rintro e w2 ⟨⟨aX, cX, rfl, hfX⟩, n2⟩
        have FX := Lib.hid hfX
        have n12 := n1.tr n2
        have N12 := Lib.hid n12
        clear hfX n1 n2 n12
        go_wp2_with (at_builtin; refine wpList_appB _ rfl (.tmp 47) (.tmp 48) rfl _ [] rfl (OwnB.fresh0 _) aX cX X X.length rfl rfl (FX.out.bs.1.below (Nb.rfl.al _)) (by intro h; subst h; exact ⟨by rw [FX.out.bs.1.none_len]; rfl, FX.out.bs.2 rfl⟩) (by simp; omega) ?_)
        intro v1 w3 ho1 hk1 hf1
        have hs12 := N12.out.size
        have fr1 : Fresh w w3 v1 X := ⟨ho1, fun g hg => by
          rcases hf1 g hg with h | h
          · simp [Value.ownBlock] at h
            omega
          · first | omega | (simp at h; omega)⟩
        have nb3 : Nb w w3 := (N12.out.al _).trans (hk1.toBelow (Nat.le_trans hs12 (by simp)) (by intro g hg; simp [Value.ownBlock] at hg; omega))
        obtain ⟨aI, cI, rfl, _⟩ := ho1.bs
        have FI := Lib.hid fr1
        have N3 := Lib.hid nb3
        clear ho1 hk1 hf1 fr1 nb3 hs12 FX
        go_wp2_with (at_builtin; refine wpList_appB _ rfl (.tmp 49) (.tmp 50) rfl _ X rfl FI.out.1 a1 cap1 r r.length rfl rfl (H'.out.below N3.out) (by intro h; subst h; exact ⟨by rw [H'.out.none_len]; rfl, nm1 rfl⟩) (by omega) ?_)
        intro v2 w4 ho2 hk2 hf2
        rw [← HZ.out] at ho2
        have hs3 := N3.out.size
        have fr2 : Fresh w w4 v2 Z := ⟨ho2, fun g hg => by
          rcases hf2 g hg with h | h
          · exact FI.out.2 g h
          · omega⟩
        have nb4 : Nb w w4 := N3.out.trans (hk2.toBelow hs3 FI.out.2)
        obtain ⟨aZ, cZ, rfl, _⟩ := ho2.bs
        have FZ := Lib.hid fr2
        have N4 := Lib.hid nb4
        clear ho2 hk2 hf2 fr2 nb4 hs3 FI N3 N12
        go_wp2_with fail
        refine (H2.out aZ cZ w4 FZ.out.bs.1).mono ?_
        rintro e w5 ⟨⟨aA, cA, rfl, hfA⟩, n5⟩
        have FA := Lib.hid hfA
        have N5 := Lib.hid (N4.out.tr n5)
        clear hfA n5 FZ N4
        have hsm : ∀ w' a, Bs w' aA cA T → Bs w' a cap0 T → Calls Try.prog 17 #[.slice aA T.length cA, .slice a k cap0] w' fun e w'' => e = .returned (.bool true) ∧ Nb w' w'' := fun w' a hb hb2 => by
          have := same_any aA a cA cap0 T T w' hb hb2
          rw [HTL.out] at this ⊢
          simpa using this
        have HSM := Lib.hid hsm
        clear hsm
        go_wp2_with fail
        refine (HSM.out w5 (some x) FA.out.bs.1 (HTB.out _ _ (H.out.below N5.out))).mono ?_
        rintro e w6 ⟨rfl, n6⟩
        have N6 := Lib.hid (N5.out.tr n6)
        clear n6 HSM FA N5
        go_wp2_with fail
        refine (H3.out (some x) w6 (HTB.out _ _ (H.out.below N6.out))).mono ?_
        rintro e w7 ⟨⟨aY, cY, rfl, hfY⟩, n7⟩
        clear hfY
        go_wp2
        go_ret
        exact ⟨rfl, N6.out.tr n7⟩

/-! ### THE ROW's STEP: WRITTEN OUT: LEAVE IT -/
set_option maxRecDepth 100000 in
theorem lifted (os : Os) (started : os.Started) (H : Type) (enc : TypeId × Value → H) :
    ReturnsInHanded {} Try.checked os 7 .any (Rows.stuffPartsSpec.pre6 enc Try.prog Try.f7 Rows.stuffPartsRow.domain false) (Rows.stuffPartsSpec.post enc Try.prog Try.f7 false true false false) := by
  refine returnsInHanded_of_change (C := Try.checked) own started (by kernel_rfl) Try.func7
    (ChangeSpec.witness6 (enc := enc) (C := Try.checked) false ⟨#[], #[.slice none 0 0, .slice none 0 0, .int .u16 0], []⟩ 8 (by kernel_rfl) (by kernel_rfl) (by kernel_rfl) (by kernel_rfl)) ?_
  intro W base args ds gs before hval0 hW hcnd _
  have hval : ∀ (j : Nat) t v, Try.f7.params[j]? = some t → args[j]? = some v → Value.okWide Try.prog W .any base t v := hval0
  have hW' := hW
  obtain ⟨p, q, hA0, hV, rfl, hfz, hnd⟩ := hW
  have hA : DataW.TrodAll enc Try.prog W 0 (fun _ => true) true Try.f7.params.toList args.toList ds p := hA0
  rw [Try.params7] at hA hval
  obtain ⟨v0, vs0, d0, ds0, p0, q0, hargs, rfl, rfl, h0, r0⟩ := trodAll_cons hA
  obtain ⟨v1, vs1, d1, ds1, p1, q1, rfl, rfl, rfl, h1, r1⟩ := trodAll_cons r0
  obtain ⟨v2, vs2, d2, ds2, p2, q2, rfl, rfl, rfl, h2, r2⟩ := trodAll_cons r1
  obtain ⟨rfl, rfl, rfl⟩ := trodAll_nil r2
  obtain rfl : args = #[v0, v1, v2] := by cases args; simp_all
  obtain ⟨rfl, rfl⟩ := trodVars_none hV
  obtain ⟨a0, len0, cap0, rfl⟩ := okWide_slice Try.underlying22 (hval 0 22 v0 rfl rfl)
  have k0 := h0
  have lt0 : ∀ x ∈ p0, x.block < W.heap.size := by obtain ⟨m, hm⟩ := k0; exact DataW.trod_lt m _ _ _ hm
  obtain ⟨z0, w0⟩ : ∃ zs, IsRow .u8 W a0 len0 cap0 zs := by
    obtain ⟨fuel, hf⟩ := h0
    rcases open_ints Try.underlying22 Try.underlying5 (by kernel_rfl) hf with ⟨hcs, _⟩ | ⟨x, l, c, zs, hcs, _, hl, hm, hz, _, hcell, hwz⟩
    · simp [Value.cells] at hcs
      obtain ⟨rfl, rfl, rfl⟩ := hcs
      exact ⟨[], .inl ⟨rfl, rfl, rfl, rfl⟩⟩
    · simp [Value.cells] at hcs
      obtain ⟨rfl, rfl, rfl⟩ := hcs
      exact ⟨zs, .inr ⟨_, rfl, hl, hm, by simpa using hz, hcell, hwz⟩⟩
  obtain ⟨a1, len1, cap1, rfl⟩ := okWide_slice Try.underlying22 (hval 1 22 v1 rfl rfl)
  have k1 := h1
  have lt1 : ∀ x ∈ p1, x.block < W.heap.size := by obtain ⟨m, hm⟩ := k1; exact DataW.trod_lt m _ _ _ hm
  obtain ⟨z1, w1⟩ : ∃ zs, IsRow .u8 W a1 len1 cap1 zs := by
    obtain ⟨fuel, hf⟩ := h1
    rcases open_ints Try.underlying22 Try.underlying5 (by kernel_rfl) hf with ⟨hcs, _⟩ | ⟨x, l, c, zs, hcs, _, hl, hm, hz, _, hcell, hwz⟩
    · simp [Value.cells] at hcs
      obtain ⟨rfl, rfl, rfl⟩ := hcs
      exact ⟨[], .inl ⟨rfl, rfl, rfl, rfl⟩⟩
    · simp [Value.cells] at hcs
      obtain ⟨rfl, rfl, rfl⟩ := hcs
      exact ⟨zs, .inr ⟨_, rfl, hl, hm, by simpa using hz, hcell, hwz⟩⟩
  obtain ⟨a2, rfl, rfl, rfl, w2⟩ := open_int Try.underlying35 (hval 2 35 v2 rfl rfl) h2
  clear hA0 hval0
  refine (walk a0 len0 cap0 z0 a1 len1 cap1 z1 a2 W w0 w1 w2).mono fun e W' ⟨he, bel⟩ => ?_
  subst he
  exact ⟨_, rfl, _, _, _, [], _, [], hW', trodAll_mk1 (shut_bool Try.underlying4 _), (trodAll_cons_mk (Below.trod laidOut (by kernel_rfl) (of_decide_eq_true (by kernel_rfl)) k0 bel lt0) (trodAll_cons_mk (Below.trod laidOut (by kernel_rfl) (of_decide_eq_true (by kernel_rfl)) k1 bel lt1) (trodAll_cons_mk (shut_int Try.underlying35 w2) trodAll_mk0))), rfl, bel.frame _, fun h => by cases h⟩

theorem over : Rows.stuffPartsRow.holds Try.pinned (OpenSpec.ofChange Rows.stuffPartsSpec) :=
  OpenClaim.holds_of_wide 7 Try.f7 rfl rfl rfl rfl rfl rfl rfl ⟨rfl, rfl, rfl, rfl, rfl⟩ rfl rfl rfl rfl rfl (by kernel_rfl) Try.func7 (by kernel_rfl)
    (of_decide_eq_true (by kernel_rfl)) (by unfold Func.isWrapper; first | (rw [if_pos (by decide +kernel)]; kernel_rfl) | (rw [if_neg (by decide +kernel)]; exact ⟨rfl, rfl⟩))
    (fun os started H enc _ => lifted os started H enc)

/-- ████ THE STATEMENT ████ -/
theorem proved : Rows.StuffPartsSaid := over
#print axioms proved
end Go.Proofs.Ytboobohcnlggnaa.stuffParts
