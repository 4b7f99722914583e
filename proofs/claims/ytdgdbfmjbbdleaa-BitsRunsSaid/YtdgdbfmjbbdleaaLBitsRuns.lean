/- For every row and byte the law BitsRuns answers true and leaves its arguments as they were. No conditions. -/
import Derived.Test.YtdgdbfmjbbdleaaRows
import Derived.Test.YtdgdbfmjbbdleaaUni
import Derived.WalkKit
import Derived.ProofKit
import Derived.OpenShut
import Derived.ShutString
import Derived.ChangeOld
import Derived.Below
import Derived.WalkSpells
namespace Go.Proofs.Ytdgdbfmjbbdleaa.bitsRuns
open Go.ChangeShapes Go.WideShapes Go.ChangeAt Go.RowKit
open Go.ChangeMaps (open_string shut_string)
set_option linter.unusedVariables false

theorem own : ownKnob Try.prog.godebug = none := by kernel_rfl
theorem laidOut : laidOutB Try.prog = true := by kernel_rfl

/-- WHAT THE WALK IS TOLD OF A SLICE OF INTEGERS THAT CAME IN: it is nil; or it leads to a row of 'cap' cells, the numbers 'zs' (the first 'len' are its elements, the rest its spare room), each fitting its kind. -/
def IsRow (k : IntKind) (w : World) (a : Option Addr) (len cap : Nat) (zs : List Int) : Prop :=
  (a = none ∧ len = 0 ∧ cap = 0 ∧ zs = []) ∨
  ∃ x, a = some x ∧ len ≤ cap ∧ cap ≤ maxLen ∧ zs.length = cap ∧ (∀ i, i < zs.length → w.cell? (x.add i) = some (.int k (zs.getD i 0))) ∧ ∀ n ∈ zs, (Lit.int k n).wf = true

/-- One byte more. -/
theorem isRun_more {l : List Nat} {k b : Nat} (h : IsRun l k) : IsRun (l ++ [b]) (if l ≠ [] ∧ l.getD (l.length - 1) 0 = b then k + 1 else 1) := by
  obtain ⟨h1, h2, h3⟩ := h
  have gl : ∀ j, j < l.length → (l ++ [b]).getD j 0 = l.getD j 0 := fun j hj => by simp [List.getD, List.getElem?_append_left hj]
  have gb : (l ++ [b]).getD l.length 0 = b := by simp [List.getD]
  have hlen : (l ++ [b]).length = l.length + 1 := by simp
  by_cases hc : l ≠ [] ∧ l.getD (l.length - 1) 0 = b
  · rw [if_pos hc]
    have hpos : 0 < l.length := List.length_pos_iff.2 hc.1
    refine ⟨by omega, fun j hj => ?_, fun hk => ?_⟩
    · rw [hlen, Nat.add_sub_cancel, gb]
      cases j with
      | zero => rw [Nat.sub_zero, gb]
      | succ j => rw [gl _ (by omega), show l.length - (j + 1) = l.length - 1 - j from by omega, h2 j (by omega), hc.2]
    · rw [hlen] at hk
      rw [hlen, Nat.add_sub_cancel, gb, gl _ (by omega), show l.length - (k + 1) = l.length - 1 - k from by omega, ← hc.2]
      exact h3 (by omega)
  · rw [if_neg hc]
    refine ⟨by omega, fun j hj => ?_, fun hk => ?_⟩
    · obtain rfl : j = 0 := by omega
      rw [hlen, Nat.add_sub_cancel, Nat.sub_zero]
    · rw [hlen] at hk
      rw [hlen, Nat.add_sub_cancel, gb, gl _ (by omega)]
      intro he
      exact hc ⟨by intro e; rw [e] at hk; simp at hk, he⟩
theorem OwnB.empty (w : World) (t : TypeId) (ht : t = 5) : OwnB (w.alloc (.cells #[] t)) (.slice (some ⟨w.heap.size, 0, none⟩) 0 0) [] := by
  subst ht
  exact ⟨World.ownsRow_made w #[] 0 (Nat.zero_le _) (by simp [maxLen]) (by simp), by simp⟩

set_option maxHeartbeats 2000000 in
set_option maxRecDepth 100000 in
theorem walk_empty (a0 : Option Addr) (cap0 b : Nat) (w : World) (h : Bs w a0 cap0 []) (hb : b < 256) (hnil : a0 = none → cap0 = 0) :
    Calls Try.prog 8 #[.slice a0 0 cap0, .int .u8 b] w fun e w' => e = .returned (.bool true) ∧ Below w.heap.size w w' := by
  have H := Lib.hid h
  have HNIL := Lib.hid hnil
  clear h hnil
  go_enter Try.func8, Try.ntmps8
  go_wp2_with fail
  refine (alive_any w).mono ?_
  rintro e w1 ⟨rfl, n1⟩
  go_wp2_with fail
  refine (run_any a0 cap0 [] _ (H.out.below n1)).mono ?_
  rintro e w2 ⟨⟨k, rfl, hk⟩, n2⟩
  obtain rfl : k = 0 := by have := hk.1; simpa using this
  have N2 := n1.tr n2
  have hmore := isRun_more (b := b) hk
  have HM := Lib.hid hmore
  clear hk hmore n1 n2
  go_wp2
  refine wp_loop_rounds 1 ?_
  rw [rounds_succ]
  go_wp2
  go_quiet (fail)
  have HA := Lib.hid ((H.out.below N2).drewN nq)
  have N2' : Nb w (w2.drewN nq) := N2.tr (Nb.drewN _ _)
  generalize w2.drewN nq = W at *
  have ho0 := OwnB.empty W 5 rfl
  have hA := HA.out.below (Nb.rfl.al (.cells #[] 5))
  go_wp2_with (at_builtin; go_must (refine wpList_appB _ rfl (.tmp 73) (.tmp 74) rfl _ [] rfl ho0 a0 cap0 [] 0 rfl rfl hA (fun h => ⟨rfl, HNIL.out h⟩) (by simp) ?_))
  intro v1 w3 ho1 kp1 fr1
  have N3 : Nb w w3 := (N2'.al (.cells #[] 5)).trans (kp1.toBelow (Nat.le_trans N2'.size (by simp)) (by intro j hj; simp [Value.ownBlock] at hj; have := N2'.size; omega))
  have hfr3 : ∀ g, v1.ownBlock = some g → w.heap.size ≤ g := fun g hg => by
    have := N2'.size
    rcases fr1 g hg with h | h
    · simp [Value.ownBlock] at h; omega
    · first | omega | (simp at h; omega)
  replace ho1 : OwnB w3 v1 [] := by simpa using ho1
  have ho1' := ho1.keep (F := fun _ => False) (Kp.alloc (o := .cells #[.int .u8 (b : Int)] 5)) (by simp)
  clear ho0 hA kp1 fr1 ho1
  go_wp2_with (at_builtin; refine wpList_appB _ rfl (.tmp 75) (.tmp 77) rfl v1 [] rfl ho1' _ _ [b] 1 rfl rfl (Bs.one w3 b hb _) (by simp) (by simp <;> omega) ?_)
  intro v2 w4 ho2 kp2 fr2
  have N4 : Nb w w4 := (N3.al (.cells #[.int .u8 (b : Int)] 5)).trans (kp2.toBelow (Nat.le_trans N3.size (by simp)) hfr3)
  obtain ⟨a, c, rfl, hbs, _⟩ := ho2.bs
  have hr := run_any a c ([] ++ [b]) w4 hbs
  rw [List.nil_append, List.length_singleton] at hr
  have HR := Lib.hid hr
  clear ho1' kp2 fr2 ho2 hbs hr
  go_wp2_with fail
  refine HR.out.mono ?_
  rintro e w5 ⟨⟨m, rfl, hm⟩, n5⟩
  obtain rfl : m = 1 := by
    have := HM.out.uniq hm
    simpa using this.symm
  have N5 := N4.tr n5
  clear hm HR HM N4 N3 N2' n5
  go_wp2
  go_ret
  exact ⟨rfl, N5⟩
set_option maxHeartbeats 2000000 in
set_option maxRecDepth 100000 in
theorem walk (a0 : Option Addr) (len0 cap0 : Nat) (z0 : List Int) (a1 : Int) (w : World) (w0 : IsRow .u8 w a0 len0 cap0 z0) (w1 : (Lit.int .u8 a1).wf = true) :
    Calls Try.prog 8 #[.slice a0 len0 cap0, .int .u8 a1] w fun e w' => e = .returned (.bool true) ∧ Below w.heap.size w w' := by
-- For every row and byte the law BitsRuns answers true and leaves its arguments as they were. No conditions.
  have hnc : a0 = none → cap0 = 0 := by
    intro ha
    rcases w0 with ⟨_, _, h, _⟩ | ⟨x, h, _⟩
    · exact h
    · rw [ha] at h; cases h
  have HNC := Lib.hid hnc
  clear hnc
  obtain ⟨l, rfl, h⟩ := Bs.ofRow w0
  obtain ⟨b, rfl, hb⟩ := u8_of_wf w1
  have H := Lib.hid h
  have hL := h.len
  clear h w0 w1
  by_cases hnil : l = []
  · subst hnil
    exact walk_empty a0 cap0 b w H.out hb HNC.out
  have hpos : 0 < l.length := List.length_pos_iff.2 hnil
  by_cases hbig : 5000 < l.length
  · clear hnil
    go_enter Try.func8, Try.ntmps8
    go_wp2_with fail
    refine (alive_any w).mono ?_
    rintro e w1 ⟨rfl, hnb⟩
    go_wp2
    go_ret
    exact ⟨rfl, hnb⟩
  have HNIL := Lib.hid hnil
  clear hnil
  go_enter Try.func8, Try.ntmps8
  go_wp2_with fail
  refine (alive_any w).mono ?_
  rintro e w1 ⟨rfl, n1⟩
  go_wp2_with fail
  refine (run_any a0 cap0 l _ (H.out.below n1)).mono ?_
  rintro e w2 ⟨⟨k, rfl, hk⟩, n2⟩
  have HK := Lib.hid hk
  have hk1 := hk.1
  have N2 := n1.tr n2
  have hkp : 0 < k := by
    obtain ⟨h1, h2, h3⟩ := hk
    rcases Nat.eq_zero_or_pos k with rfl | h
    · exact absurd rfl (h3 (by omega))
    · exact h
  have hmore := isRun_more (b := b) hk
  have HM := Lib.hid hmore
  clear hk hmore n1 n2
  have hcap := H.out.hcap
  obtain ⟨bb, oo, rfl, hcl⟩ := (H.out.below N2).hcells (by omega)
  have HCL := Lib.hid hcl
  have hzz : (!(((k : Int) == 0) == ((l.length : Int) == 0))) = false := by
    have e1 : ((k : Int) == 0) = false := by rw [beq_eq_false_iff_ne]; omega
    have e2 : ((l.length : Int) == 0) = false := by rw [beq_eq_false_iff_ne]; omega
    rw [e1, e2]; rfl
  have d1 : decide ((k : Int) < 0) = false := by simp
  have d2 : decide (l.length < k) = false := by simp; omega
  have hlk : l.length - (l.length - k) = k := by omega
  have HR := Lib.hid HK.out.2.1
  have HE := Lib.hid HK.out.2.2
  clear hcl
  go_wp2
  go_loop [39] (fun i => ∃ j : Nat, j ≤ k ∧ i = .int .i64 j) (fun i => k - (intOf i).toNat)
  case atStart => exact ⟨0, Nat.zero_le _, rfl⟩
  case round =>
    obtain ⟨j, hj, rfl⟩ := hrel
    by_cases hlt : j < k
    · have c1 : w2.cell? ⟨bb, oo + (l.length - k) + j, none⟩ = some (.int .u8 ((l.getD (l.length - 1) 0 : Nat) : Int)) := by
        have h1 := HCL.out (l.length - k + j) (by omega)
        have h2 := HR.out (k - 1 - j) (by omega)
        rw [show l.length - 1 - (k - 1 - j) = l.length - k + j from by omega] at h2
        rw [Nat.add_assoc, h1, h2]
      have c2 : w2.cell? ⟨bb, oo + (l.length - 1), none⟩ = some (.int .u8 ((l.getD (l.length - 1) 0 : Nat) : Int)) := HCL.out _ (by omega)
      generalize l.getD (l.length - 1) 0 = q at *
      go_wp2
      go_round
      case rel => exact ⟨j + 1, by omega, by go_num⟩
      case measure => simp [intOf]; omega
    · obtain rfl : j = k := by omega
      have H2 := Lib.hid (H.out.below N2)
      by_cases hlt2 : j < l.length
      · have c1 : w2.cell? ⟨bb, oo + (l.length - j - 1), none⟩ = some (.int .u8 ((l.getD (l.length - j - 1) 0 : Nat) : Int)) := HCL.out _ (by omega)
        have c2 : w2.cell? ⟨bb, oo + (l.length - 1), none⟩ = some (.int .u8 ((l.getD (l.length - 1) 0 : Nat) : Int)) := HCL.out _ (by omega)
        have hne := HE.out hlt2
        rw [show l.length - 1 - j = l.length - j - 1 from by omega] at hne
        have hne2 : ((l.getD (l.length - j - 1) 0 : Int) == (l.getD (l.length - 1) 0 : Int)) = false := by rw [beq_eq_false_iff_ne]; omega
        clear hne
        obtain ⟨qq, hqq⟩ : ∃ q, l.getD (l.length - j - 1) 0 = q := ⟨_, rfl⟩
        obtain ⟨q', hq'⟩ : ∃ q, l.getD (l.length - 1) 0 = q := ⟨_, rfl⟩
        rw [hqq] at c1 hne2
        rw [hq'] at c2 hne2
        clear hqq hq'
        go_wp2
        go_quiet (fail)
        clear c1 c2
        have HA := Lib.hid ((H.out.below N2).drewN nq)
        have N2' : Nb w (w2.drewN nq) := N2.tr (Nb.drewN _ _)
        generalize w2.drewN nq = W at *
        have ho0 := OwnB.empty W 5 rfl
        have hA := HA.out.below (Nb.rfl.al (.cells #[] 5))
        go_wp2_with (at_builtin; go_must (refine wpList_appB _ rfl (.tmp 73) (.tmp 74) rfl _ [] rfl ho0 (some ⟨bb, oo, none⟩) cap0 l l.length rfl rfl hA (by simp) (by simp <;> omega) ?_))
        intro v1 w3 ho1 kp1 fr1
        have N3 : Nb w w3 := (N2'.al (.cells #[] 5)).trans (kp1.toBelow (Nat.le_trans N2'.size (by simp)) (by intro j hj; simp [Value.ownBlock] at hj; have := N2'.size; omega))
        have hfr3 : ∀ g, v1.ownBlock = some g → w.heap.size ≤ g := fun g hg => by
          have := N2'.size
          rcases fr1 g hg with h | h
          · simp [Value.ownBlock] at h; omega
          · first | omega | (simp at h; omega)
        replace ho1 : OwnB w3 v1 l := by simpa using ho1
        have ho1' := ho1.keep (F := fun _ => False) (Kp.alloc (o := .cells #[.int .u8 (b : Int)] 5)) (by simp)
        clear ho0 hA kp1 fr1 ho1
        go_wp2_with (at_builtin; refine wpList_appB _ rfl (.tmp 75) (.tmp 77) rfl v1 l rfl ho1' _ _ [b] 1 rfl rfl (Bs.one w3 b hb _) (by simp) (by simp <;> omega) ?_)
        intro v2 w4 ho2 kp2 fr2
        have N4 : Nb w w4 := (N3.al (.cells #[.int .u8 (b : Int)] 5)).trans (kp2.toBelow (Nat.le_trans N3.size (by simp)) hfr3)
        obtain ⟨a, c, rfl, hbs, _⟩ := ho2.bs
        have hr := run_any a c (l ++ [b]) w4 hbs
        rw [List.length_append, List.length_singleton] at hr
        have HR := Lib.hid hr
        clear ho1' kp2 fr2 ho2 hbs hr
        go_wp2_with fail
        refine HR.out.mono ?_
        rintro e w5 ⟨⟨m, rfl, hm⟩, n5⟩
        obtain rfl := HM.out.uniq hm
        have N5 := N4.tr n5
        obtain ⟨b5, o5, he5, hc5⟩ := (H.out.below N5).hcells hpos
        simp only [Option.some.injEq, Addr.mk.injEq, and_true] at he5
        obtain ⟨rfl, rfl⟩ := he5
        have c5 := hc5 (l.length - 1) (by omega)
        have hnn := HNIL.out
        have HN5 := Lib.hid N5
        clear hm hc5 HR HM N5 N4 N3 N2' n5
        generalize l.getD (l.length - 1) 0 = q at *
        by_cases hq : q = b
        · have hm1 : (if l ≠ [] ∧ q = b then j + 1 else 1) = j + 1 := if_pos ⟨hnn, hq⟩
          have hqb : ((q : Int) == (b : Int)) = true := by rw [hq]; simp
          rw [hm1]
          clear hm1 hq hnn
          go_wp2
          go_ret
          exact ⟨rfl, HN5.out⟩
        · have hm1 : (if l ≠ [] ∧ q = b then j + 1 else 1) = 1 := if_neg (fun h => hq h.2)
          have hqb : ((q : Int) == (b : Int)) = false := by rw [beq_eq_false_iff_ne]; omega
          rw [hm1]
          clear hm1 hq hnn
          go_wp2
          go_ret
          exact ⟨rfl, HN5.out⟩
      · go_wp2
        refine wp_region_quiet_lit (by kernel_rfl) (by kernel_rfl) ?_
        repeat (any_goals (first | go_big_quiet_step (fail) | quiet_step (fail) | (refine wpQuiet_step (fun K hK => ?_); go_simp; split <;> (refine hK _ ?_; clear hK K))))
        all_goals (refine wpQuiet_nil ?_; intro _ hw'; obtain ⟨nq, hw''⟩ := hw'; subst hw'')
        have HA := Lib.hid ((H.out.below N2).drewN nq)
        have N2' : Nb w (w2.drewN nq) := N2.tr (Nb.drewN _ _)
        generalize w2.drewN nq = W at *
        have ho0 := OwnB.empty W 5 rfl
        have hA := HA.out.below (Nb.rfl.al (.cells #[] 5))
        go_wp2_with (at_builtin; go_must (refine wpList_appB _ rfl (.tmp 73) (.tmp 74) rfl _ [] rfl ho0 (some ⟨bb, oo, none⟩) cap0 l l.length rfl rfl hA (by simp) (by simp <;> omega) ?_))
        intro v1 w3 ho1 kp1 fr1
        have N3 : Nb w w3 := (N2'.al (.cells #[] 5)).trans (kp1.toBelow (Nat.le_trans N2'.size (by simp)) (by intro j hj; simp [Value.ownBlock] at hj; have := N2'.size; omega))
        have hfr3 : ∀ g, v1.ownBlock = some g → w.heap.size ≤ g := fun g hg => by
          have := N2'.size
          rcases fr1 g hg with h | h
          · simp [Value.ownBlock] at h; omega
          · first | omega | (simp at h; omega)
        replace ho1 : OwnB w3 v1 l := by simpa using ho1
        have ho1' := ho1.keep (F := fun _ => False) (Kp.alloc (o := .cells #[.int .u8 (b : Int)] 5)) (by simp)
        clear ho0 hA kp1 fr1 ho1
        go_wp2_with (at_builtin; refine wpList_appB _ rfl (.tmp 75) (.tmp 77) rfl v1 l rfl ho1' _ _ [b] 1 rfl rfl (Bs.one w3 b hb _) (by simp) (by simp <;> omega) ?_)
        intro v2 w4 ho2 kp2 fr2
        have N4 : Nb w w4 := (N3.al (.cells #[.int .u8 (b : Int)] 5)).trans (kp2.toBelow (Nat.le_trans N3.size (by simp)) hfr3)
        obtain ⟨a, c, rfl, hbs, _⟩ := ho2.bs
        have hr := run_any a c (l ++ [b]) w4 hbs
        rw [List.length_append, List.length_singleton] at hr
        have HR := Lib.hid hr
        clear ho1' kp2 fr2 ho2 hbs hr
        go_wp2_with fail
        refine HR.out.mono ?_
        rintro e w5 ⟨⟨m, rfl, hm⟩, n5⟩
        obtain rfl := HM.out.uniq hm
        have N5 := N4.tr n5
        obtain ⟨b5, o5, he5, hc5⟩ := (H.out.below N5).hcells hpos
        simp only [Option.some.injEq, Addr.mk.injEq, and_true] at he5
        obtain ⟨rfl, rfl⟩ := he5
        have c5 := hc5 (l.length - 1) (by omega)
        have hnn := HNIL.out
        have HN5 := Lib.hid N5
        clear hm hc5 HR HM N5 N4 N3 N2' n5
        generalize l.getD (l.length - 1) 0 = q at *
        by_cases hq : q = b
        · have hm1 : (if l ≠ [] ∧ q = b then j + 1 else 1) = j + 1 := if_pos ⟨hnn, hq⟩
          have hqb : ((q : Int) == (b : Int)) = true := by rw [hq]; simp
          rw [hm1]
          clear hm1 hq hnn
          go_wp2
          go_ret
          exact ⟨rfl, HN5.out⟩
        · have hm1 : (if l ≠ [] ∧ q = b then j + 1 else 1) = 1 := if_neg (fun h => hq h.2)
          have hqb : ((q : Int) == (b : Int)) = false := by rw [beq_eq_false_iff_ne]; omega
          rw [hm1]
          clear hm1 hq hnn
          go_wp2
          go_ret
          exact ⟨rfl, HN5.out⟩

/-! ### THE ROW's STEP: WRITTEN OUT: LEAVE IT -/
set_option maxRecDepth 100000 in
theorem lifted (os : Os) (started : os.Started) (H : Type) (enc : TypeId × Value → H) :
    ReturnsInHanded {} Try.checked os 8 .any (Rows.bitsRunsSpec.pre6 enc Try.prog Try.f8 Rows.bitsRunsRow.domain false) (Rows.bitsRunsSpec.post enc Try.prog Try.f8 false true false false) := by
  refine returnsInHanded_of_change (C := Try.checked) own started (by kernel_rfl) Try.func8
    (ChangeSpec.witness6 (enc := enc) (C := Try.checked) false ⟨#[], #[.slice none 0 0, .int .u8 0], []⟩ 8 (by kernel_rfl) (by kernel_rfl) (by kernel_rfl) (by kernel_rfl)) ?_
  intro W base args ds gs before hval0 hW hcnd _
  have hval : ∀ (j : Nat) t v, Try.f8.params[j]? = some t → args[j]? = some v → Value.okWide Try.prog W .any base t v := hval0
  have hW' := hW
  obtain ⟨p, q, hA0, hV, rfl, hfz, hnd⟩ := hW
  have hA : DataW.TrodAll enc Try.prog W 0 (fun _ => true) true Try.f8.params.toList args.toList ds p := hA0
  rw [Try.params8] at hA hval
  obtain ⟨v0, vs0, d0, ds0, p0, q0, hargs, rfl, rfl, h0, r0⟩ := trodAll_cons hA
  obtain ⟨v1, vs1, d1, ds1, p1, q1, rfl, rfl, rfl, h1, r1⟩ := trodAll_cons r0
  obtain ⟨rfl, rfl, rfl⟩ := trodAll_nil r1
  obtain rfl : args = #[v0, v1] := by cases args; simp_all
  obtain ⟨rfl, rfl⟩ := trodVars_none hV
  obtain ⟨a0, len0, cap0, rfl⟩ := okWide_slice Try.underlying23 (hval 0 23 v0 rfl rfl)
  have k0 := h0
  have lt0 : ∀ x ∈ p0, x.block < W.heap.size := by obtain ⟨m, hm⟩ := k0; exact DataW.trod_lt m _ _ _ hm
  obtain ⟨z0, w0⟩ : ∃ zs, IsRow .u8 W a0 len0 cap0 zs := by
    obtain ⟨fuel, hf⟩ := h0
    rcases open_ints Try.underlying23 Try.underlying5 (by kernel_rfl) hf with ⟨hcs, _⟩ | ⟨x, l, c, zs, hcs, _, hl, hm, hz, _, hcell, hwz⟩
    · simp [Value.cells] at hcs
      obtain ⟨rfl, rfl, rfl⟩ := hcs
      exact ⟨[], .inl ⟨rfl, rfl, rfl, rfl⟩⟩
    · simp [Value.cells] at hcs
      obtain ⟨rfl, rfl, rfl⟩ := hcs
      exact ⟨zs, .inr ⟨_, rfl, hl, hm, by simpa using hz, hcell, hwz⟩⟩
  obtain ⟨a1, rfl, rfl, rfl, w1⟩ := open_int Try.underlying5 (hval 1 5 v1 rfl rfl) h1
  clear hA0 hval0
  refine (walk a0 len0 cap0 z0 a1 W w0 w1).mono fun e W' ⟨he, bel⟩ => ?_
  subst he
  exact ⟨_, rfl, _, _, _, [], _, [], hW', trodAll_mk1 (shut_bool Try.underlying4 _), (trodAll_cons_mk (Below.trod laidOut (by kernel_rfl) (of_decide_eq_true (by kernel_rfl)) k0 bel lt0) (trodAll_cons_mk (shut_int Try.underlying5 w1) trodAll_mk0)), rfl, bel.frame _, fun h => by cases h⟩

theorem over : Rows.bitsRunsRow.holds Try.pinned (OpenSpec.ofChange Rows.bitsRunsSpec) :=
  OpenClaim.holds_of_wide 8 Try.f8 rfl rfl rfl rfl rfl rfl rfl ⟨rfl, rfl, rfl, rfl, rfl⟩ rfl rfl rfl rfl rfl (by kernel_rfl) Try.func8 (by kernel_rfl)
    (of_decide_eq_true (by kernel_rfl)) (by unfold Func.isWrapper; first | (rw [if_pos (by decide +kernel)]; kernel_rfl) | (rw [if_neg (by decide +kernel)]; exact ⟨rfl, rfl⟩))
    (fun os started H enc _ => lifted os started H enc)

/-- ████ THE STATEMENT ████ -/
theorem proved : Rows.BitsRunsSaid := over
#print axioms proved
end Go.Proofs.Ytdgdbfmjbbdleaa.bitsRuns
