/- For every number, size and row of bytes the law BitsNumbers answers true and leaves its arguments as they were. No conditions. -/
import Derived.Test.YtdgdbfmjbbdleaaRows
import Derived.Test.YtdgdbfmjbbdleaaUni
import Derived.WalkKit
import Derived.ProofKit
import Derived.OpenShut
import Derived.ShutString
import Derived.ChangeOld
import Derived.Below
namespace Go.Proofs.Ytdgdbfmjbbdleaa.bitsNumbers
open Go.ChangeShapes Go.WideShapes Go.ChangeAt Go.RowKit
open Go.ChangeMaps (open_string shut_string)
set_option linter.unusedVariables false

theorem own : ownKnob Try.prog.godebug = none := by kernel_rfl
theorem laidOut : laidOutB Try.prog = true := by kernel_rfl

/-- WHAT THE WALK IS TOLD OF A SLICE OF INTEGERS THAT CAME IN: it is nil; or it leads to a row of 'cap' cells, the numbers 'zs' (the first 'len' are its elements, the rest its spare room), each fitting its kind. -/
def IsRow (k : IntKind) (w : World) (a : Option Addr) (len cap : Nat) (zs : List Int) : Prop :=
  (a = none ∧ len = 0 ∧ cap = 0 ∧ zs = []) ∨
  ∃ x, a = some x ∧ len ≤ cap ∧ cap ≤ maxLen ∧ zs.length = cap ∧ (∀ i, i < zs.length → w.cell? (x.add i) = some (.int k (zs.getD i 0))) ∧ ∀ n ∈ zs, (Lit.int k n).wf = true

set_option maxHeartbeats 2000000 in
set_option maxRecDepth 100000 in
theorem walk (a0 : Int) (a1 : Int) (a2 : Option Addr) (len2 cap2 : Nat) (z2 : List Int) (w : World) (w0 : (Lit.int .u64 a0).wf = true) (w1 : (Lit.int .i64 a1).wf = true) (w2 : IsRow .u8 w a2 len2 cap2 z2) :
    Calls Try.prog 3 #[.int .u64 a0, .int .i64 a1, .slice a2 len2 cap2] w fun e w' => e = .returned (.bool true) ∧ Below w.heap.size w w' := by
-- For every number, size and row of bytes the law BitsNumbers answers true and leaves its arguments as they were. No conditions.
  obtain ⟨l, rfl, h⟩ := Bs.ofRow w2
  obtain ⟨n, rfl, hn⟩ := u64_of_wf w0
  have H := Lib.hid h
  have HN := Lib.hid hn
  have hL := h.len
  clear h hn w0 w1 w2
  by_cases hbig : 2000 < l.length ∧ l.length ≤ 65536
  · obtain ⟨hb1, hb2⟩ := hbig
    go_enter Try.func3, Try.ntmps3
    go_wp2_with fail
    refine (alive_any w).mono ?_
    rintro e w1 ⟨rfl, hnb⟩
    go_wp2
    go_ret
    exact ⟨rfl, hnb⟩
  · rcases (by omega : l.length ≤ 2000 ∨ 65536 < l.length) with h1 | h1
    all_goals
      clear hbig
      go_enter Try.func3, Try.ntmps3
      go_wp2_with fail
      refine (alive_any w).mono ?_
      rintro e w1 ⟨rfl, n1⟩
      go_wp2_with fail
      refine (put_u n a1 _ HN.out).mono ?_
      rintro e w2 ⟨⟨p1, c1, rfl, b1⟩, n2⟩
      have B1 := Lib.hid b1
      clear b1
      go_wp2_with fail
      refine (refput_u n a1 _ HN.out).mono ?_
      rintro e w3 ⟨⟨p2, c2, rfl, b2⟩, n3⟩
      have B2 := Lib.hid b2
      clear b2
      go_wp2_with fail
      refine (get_u a2 cap2 l _ (H.out.below ((n1.tr n2).tr n3))).mono ?_
      rintro e w4 ⟨rfl, n4⟩
      go_wp2_with fail
      refine (refget_u a2 cap2 l _ (H.out.below (((n1.tr n2).tr n3).tr n4))).mono ?_
      rintro e w5 ⟨rfl, n5⟩
      go_wp2_with fail
      refine (same_any p1 p2 c1 c2 _ _ w5 (B1.out.below ((n3.tr n4).tr n5)) (B2.out.below (n4.tr n5))).mono ?_
      rintro e w6 ⟨rfl, n6⟩
      go_wp2_with fail
      refine (check_u a2 cap2 l _ (H.out.below (((((n1.tr n2).tr n3).tr n4).tr n5).tr n6))).mono ?_
      rintro e w' ⟨rfl, rfl⟩
      go_wp2_with fail
      refine (refcheck_u a2 cap2 l _ (H.out.below (((((n1.tr n2).tr n3).tr n4).tr n5).tr n6))).mono ?_
      rintro e w' ⟨rfl, rfl⟩
      go_wp2_with fail
      refine (run_any a2 cap2 l _ (H.out.below (((((n1.tr n2).tr n3).tr n4).tr n5).tr n6))).mono ?_
      rintro e w7 ⟨⟨k, rfl, hk⟩, n7⟩
      have HK := Lib.hid hk
      clear hk
      go_wp2_with fail
      refine (refrun_any a2 cap2 l _ (H.out.below ((((((n1.tr n2).tr n3).tr n4).tr n5).tr n6).tr n7))).mono ?_
      rintro e w8 ⟨⟨k', rfl, hk'⟩, n8⟩
      obtain rfl := HK.out.uniq hk'
      clear hk'
      go_wp2
      go_ret
      exact ⟨rfl, (((((((n1.tr n2).tr n3).tr n4).tr n5).tr n6).tr n7).tr n8)⟩

/-! ### THE ROW's STEP: WRITTEN OUT: LEAVE IT -/
set_option maxRecDepth 100000 in
theorem lifted (os : Os) (started : os.Started) (H : Type) (enc : TypeId × Value → H) :
    ReturnsInHanded {} Try.checked os 3 .any (Rows.bitsNumbersSpec.pre6 enc Try.prog Try.f3 Rows.bitsNumbersRow.domain false) (Rows.bitsNumbersSpec.post enc Try.prog Try.f3 false true false false) := by
  refine returnsInHanded_of_change (C := Try.checked) own started (by kernel_rfl) Try.func3
    (ChangeSpec.witness6 (enc := enc) (C := Try.checked) false ⟨#[], #[.int .u64 0, .int .i64 0, .slice none 0 0], []⟩ 8 (by kernel_rfl) (by kernel_rfl) (by kernel_rfl) (by kernel_rfl)) ?_
  intro W base args ds gs before hval0 hW hcnd _
  have hval : ∀ (j : Nat) t v, Try.f3.params[j]? = some t → args[j]? = some v → Value.okWide Try.prog W .any base t v := hval0
  have hW' := hW
  obtain ⟨p, q, hA0, hV, rfl, hfz, hnd⟩ := hW
  have hA : DataW.TrodAll enc Try.prog W 0 (fun _ => true) true Try.f3.params.toList args.toList ds p := hA0
  rw [Try.params3] at hA hval
  obtain ⟨v0, vs0, d0, ds0, p0, q0, hargs, rfl, rfl, h0, r0⟩ := trodAll_cons hA
  obtain ⟨v1, vs1, d1, ds1, p1, q1, rfl, rfl, rfl, h1, r1⟩ := trodAll_cons r0
  obtain ⟨v2, vs2, d2, ds2, p2, q2, rfl, rfl, rfl, h2, r2⟩ := trodAll_cons r1
  obtain ⟨rfl, rfl, rfl⟩ := trodAll_nil r2
  obtain rfl : args = #[v0, v1, v2] := by cases args; simp_all
  obtain ⟨rfl, rfl⟩ := trodVars_none hV
  obtain ⟨a0, rfl, rfl, rfl, w0⟩ := open_int Try.underlying22 (hval 0 22 v0 rfl rfl) h0
  obtain ⟨a1, rfl, rfl, rfl, w1⟩ := open_int Try.underlying3 (hval 1 3 v1 rfl rfl) h1
  obtain ⟨a2, len2, cap2, rfl⟩ := okWide_slice Try.underlying23 (hval 2 23 v2 rfl rfl)
  have k2 := h2
  have lt2 : ∀ x ∈ p2, x.block < W.heap.size := by obtain ⟨m, hm⟩ := k2; exact DataW.trod_lt m _ _ _ hm
  obtain ⟨z2, w2⟩ : ∃ zs, IsRow .u8 W a2 len2 cap2 zs := by
    obtain ⟨fuel, hf⟩ := h2
    rcases open_ints Try.underlying23 Try.underlying5 (by kernel_rfl) hf with ⟨hcs, _⟩ | ⟨x, l, c, zs, hcs, _, hl, hm, hz, _, hcell, hwz⟩
    · simp [Value.cells] at hcs
      obtain ⟨rfl, rfl, rfl⟩ := hcs
      exact ⟨[], .inl ⟨rfl, rfl, rfl, rfl⟩⟩
    · simp [Value.cells] at hcs
      obtain ⟨rfl, rfl, rfl⟩ := hcs
      exact ⟨zs, .inr ⟨_, rfl, hl, hm, by simpa using hz, hcell, hwz⟩⟩
  clear hA0 hval0
  refine (walk a0 a1 a2 len2 cap2 z2 W w0 w1 w2).mono fun e W' ⟨he, bel⟩ => ?_
  subst he
  exact ⟨_, rfl, _, _, _, [], _, [], hW', trodAll_mk1 (shut_bool Try.underlying4 _), (trodAll_cons_mk (shut_int Try.underlying22 w0) (trodAll_cons_mk (shut_int Try.underlying3 w1) (trodAll_cons_mk (Below.trod laidOut (by kernel_rfl) (of_decide_eq_true (by kernel_rfl)) k2 bel lt2) trodAll_mk0))), rfl, bel.frame _, fun h => by cases h⟩

theorem over : Rows.bitsNumbersRow.holds Try.pinned (OpenSpec.ofChange Rows.bitsNumbersSpec) :=
  OpenClaim.holds_of_wide 3 Try.f3 rfl rfl rfl rfl rfl rfl rfl ⟨rfl, rfl, rfl, rfl, rfl⟩ rfl rfl rfl rfl rfl (by kernel_rfl) Try.func3 (by kernel_rfl)
    (of_decide_eq_true (by kernel_rfl)) (by unfold Func.isWrapper; first | (rw [if_pos (by decide +kernel)]; kernel_rfl) | (rw [if_neg (by decide +kernel)]; exact ⟨rfl, rfl⟩))
    (fun os started H enc _ => lifted os started H enc)

/-- ████ THE STATEMENT ████ -/
theorem proved : Rows.BitsNumbersSaid := over
#print axioms proved
end Go.Proofs.Ytdgdbfmjbbdleaa.bitsNumbers
