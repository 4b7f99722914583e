/- For every frame the law FrameKinds answers true and leaves its argument as it was; the package's table of longer sizes is tied to the program's text. No conditions. -/
import Derived.Test.YtfclicghkhemlaaDoorRows
import Derived.Test.YtfclicghkhemlaaDoorCards
import Derived.Test.YtfclicghkhemlaaDoorTie
import Derived.Test.YtfclicghkhemlaaDoorFrmA
import Derived.Test.YtfclicghkhemlaaDoorFrmH
import Derived.Test.YtfclicghkhemlaaDoorOpn
import Derived.WalkKit
import Derived.ProofKit
import Derived.OpenShut
import Derived.ShutString
import Derived.ChangeOld
import Derived.Below
import Derived.Carry
import Derived.Lib.SmallJoins
import Derived.Deep.RegionWith
import Derived.Deep.RegionHeld3
import Derived.LaidMore
import Derived.LaidLaws
import Derived.Stop.Joined
import Derived.SevenTiedAt
namespace Go.Proofs.YtfclicghkhemlaaDoor.frameKinds
open Go.ChangeShapes Go.WideShapes Go.ChangeAt Go.RowKit Go.Joins
set_option linter.unusedVariables false
theorem own : ownKnob Tryd.prog.godebug = none := by kernel_rfl
theorem laidOut : laidOutB Tryd.prog = true := by kernel_rfl
theorem arr11 {α : Type} {cs : Array α} (h : cs.size = 11) : ∃ c0 c1 c2 c3 c4 c5 c6 c7 c8 c9 c10, cs = #[c0, c1, c2, c3, c4, c5, c6, c7, c8, c9, c10] := by
  obtain ⟨l⟩ := cs
  match l, h with
  | [c0, c1, c2, c3, c4, c5, c6, c7, c8, c9, c10], _ => exact ⟨c0, c1, c2, c3, c4, c5, c6, c7, c8, c9, c10, rfl⟩
/-- How many of the first kinds this frame may be as. -/
def cntK (f : Hd) (l : List Nat) : Nat → Nat
  | 0 => 0
  | k + 1 => cntK f l k + (if okF { f with K := ((k + 1 : Nat) : Int) } l then 1 else 0)
/-- Does a frame bear what one kind alone has? -/
def flagK (f : Hd) (l : List Nat) : Bool := f.X || (f.R || (f.B || (f.E || (f.S || (decide (0 < f.D) || (decide (0 < f.V) || (decide (0 < f.A) || decide (64 < l.length))))))))
theorem hasF_top {k : Int} {n : Nat} (h : 64 < n) (hk : k = 1 ∨ k = 2) : hasF k (n : Int) = false := by
  cases hh : hasF k (n : Int) with
  | false => rfl
  | true =>
    obtain ⟨h1, h2⟩ := (hasF_iff k _).1 hh
    rcases hk with rfl | rfl
    · have := at1 _ h1; have : fitF 1 (n : Int) < 9 := h1; omega
    · have := at2 _ h1; omega
theorem cnt_one {b1 b2 b3 : Bool} (h : b1 = true ∨ b2 = true ∨ b3 = true) (hx : (b2 = false ∧ b3 = false) ∨ (b1 = false ∧ b3 = false) ∨ (b1 = false ∧ b2 = false)) :
    (if b1 then 1 else 0) + (if b2 then 1 else 0) + (if b3 then 1 else 0) = 1 := by
  cases b1 <;> cases b2 <;> cases b3 <;> simp_all
theorem cnt_pos {b1 b2 b3 : Bool} (h : b1 = true ∨ b2 = true ∨ b3 = true) : 1 ≤ (if b1 then 1 else 0) + (if b2 then 1 else 0) + (if b3 then 1 else 0) := by
  cases b1 <;> cases b2 <;> cases b3 <;> simp_all
theorem kinds_any (f : Hd) (l : List Nat) (h : okF f l = true) (hD : 0 ≤ f.D) (hV : 0 ≤ f.V) (hA : 0 ≤ f.A) : cntK f l 3 = 1 ∨ (1 ≤ cntK f l 3 ∧ flagK f l = false) := by
  obtain ⟨K, I, X, R, B, E, S, D, V, A⟩ := f
  simp only at hD hV hA
  have e : cntK ⟨K, I, X, R, B, E, S, D, V, A⟩ l 3 = (if okF ⟨1, I, X, R, B, E, S, D, V, A⟩ l then 1 else 0) + (if okF ⟨2, I, X, R, B, E, S, D, V, A⟩ l then 1 else 0) + (if okF ⟨3, I, X, R, B, E, S, D, V, A⟩ l then 1 else 0) := by
    show (0 + _ + _ + _ : Nat) = _
    rw [Nat.zero_add]
    rfl
  have hor : okF ⟨1, I, X, R, B, E, S, D, V, A⟩ l = true ∨ okF ⟨2, I, X, R, B, E, S, D, V, A⟩ l = true ∨ okF ⟨3, I, X, R, B, E, S, D, V, A⟩ l = true := by
    have hk : hasF K (l.length : Int) = true := by
      simp only [okF, Bool.and_eq_true] at h
      exact h.1
    rcases hasF_kind hk with rfl | rfl | rfl
    · exact .inl h
    · exact .inr (.inl h)
    · exact .inr (.inr h)
  rw [e]
  cases hf : flagK ⟨K, I, X, R, B, E, S, D, V, A⟩ l with
  | false => exact .inr ⟨cnt_pos hor, rfl⟩
  | true =>
    refine .inl (cnt_one hor ?_)
    simp only [flagK, Bool.or_eq_true, decide_eq_true_eq] at hf
    rw [okF_cl, okF_fd, okF_xl]
    rcases hf with rfl | rfl | rfl | rfl | rfl | hd | hd | hd | hd
    · exact .inl ⟨by simp [okFd], by simp [okXl]⟩
    · exact .inl ⟨by simp [okFd], by simp [okXl]⟩
    · exact .inr (.inl ⟨by simp [okCl], by simp [okXl]⟩)
    · exact .inr (.inl ⟨by simp [okCl], by simp [okXl]⟩)
    · exact .inr (.inr ⟨by simp [okCl], by simp [okFd]⟩)
    · exact .inr (.inr ⟨by simp [okCl, show ¬ D = 0 by omega], by simp [okFd, show ¬ D = 0 by omega]⟩)
    · exact .inr (.inr ⟨by simp [okCl, show ¬ V = 0 by omega], by simp [okFd, show ¬ V = 0 by omega]⟩)
    · exact .inr (.inr ⟨by simp [okCl, show ¬ A = 0 by omega], by simp [okFd, show ¬ A = 0 by omega]⟩)
    · exact .inr (.inr ⟨by simp [hasF_top hd (.inl rfl)], by simp [hasF_top hd (.inr rfl)]⟩)
theorem u_pos8 {a : Int} (h : (Lit.int .u8 a).wf = true) : 0 ≤ a := by
  simp [Lit.wf, IntKind.min, IntKind.max, IntKind.signed, IntKind.bits] at h
  omega
theorem u_pos32 {a : Int} (h : (Lit.int .u32 a).wf = true) : 0 ≤ a := by
  simp [Lit.wf, IntKind.min, IntKind.max, IntKind.signed, IntKind.bits] at h
  omega
theorem cntK_le (f : Hd) (l : List Nat) : ∀ k, cntK f l k ≤ k := by
  intro k
  induction k with
  | zero => exact Nat.le_refl _
  | succ k ih =>
    simp only [cntK]
    split <;> omega
set_option maxHeartbeats 8000000 in
set_option maxRecDepth 100000 in
theorem walk (w : World) (hK : Longer w) (a0_0 : Int) (w0_0 : (Lit.int .i64 a0_0).wf = true) (a0_1 : Int) (w0_1 : (Lit.int .u32 a0_1).wf = true) (a0_2 : Bool) (a0_3 : Bool) (a0_4 : Bool) (a0_5 : Bool) (a0_6 : Bool) (a0_7 : Int) (w0_7 : (Lit.int .u8 a0_7).wf = true) (a0_8 : Int) (w0_8 : (Lit.int .u8 a0_8).wf = true) (a0_9 : Int) (w0_9 : (Lit.int .u32 a0_9).wf = true) (a0_10 : Option Addr) (cap0_10 : Nat) (l0_10 : List Nat) (h0_10 : Bs w a0_10 cap0_10 l0_10) (n0_10 : a0_10 = none → cap0_10 = 0) :
    Calls Tryd.prog 8 #[.agg #[.int .i64 a0_0, .int .u32 a0_1, .bool a0_2, .bool a0_3, .bool a0_4, .bool a0_5, .bool a0_6, .int .u8 a0_7, .int .u8 a0_8, .int .u32 a0_9, .slice a0_10 l0_10.length cap0_10]] w fun e w' => e = .returned (.bool true) ∧ Nb w w' := by
  have HK := Lib.hid hK
  have hL0 := h0_10.len
  have HA := Lib.hid h0_10
  have p7 := u_pos8 w0_7
  have p8 := u_pos8 w0_8
  have p9 := u_pos32 w0_9
  have hba : Blk (w.alloc (.cells #[.int .i64 a0_0, .int .u32 a0_1, .bool a0_2, .bool a0_3, .bool a0_4, .bool a0_5, .bool a0_6, .int .u8 a0_7, .int .u8 a0_8, .int .u32 a0_9, .slice a0_10 l0_10.length cap0_10] 25)) w.heap.size #[.int .i64 a0_0, .int .u32 a0_1, .bool a0_2, .bool a0_3, .bool a0_4, .bool a0_5, .bool a0_6, .int .u8 a0_7, .int .u8 a0_8, .int .u32 a0_9, .slice a0_10 l0_10.length cap0_10] 25 := Blk.new w _ _
  have QA := Lib.hid hba
  have f1 := Lib.hid (fun w' (h : Nb w w') => check5_any ⟨a0_0, a0_1, a0_2, a0_3, a0_4, a0_5, a0_6, a0_7, a0_8, a0_9⟩ a0_10 cap0_10 l0_10 w' (HA.out.below h) (HK.out.below h))
  have f2 := Lib.hid (fun (k : Int) w' (h : Nb w w') => check5_any ⟨k, a0_1, a0_2, a0_3, a0_4, a0_5, a0_6, a0_7, a0_8, a0_9⟩ a0_10 cap0_10 l0_10 w' (HA.out.below h) (HK.out.below h))
  clear hK h0_10 w0_0 w0_1 w0_7 w0_8 w0_9 n0_10 hba
  cases hok : okF ⟨a0_0, a0_1, a0_2, a0_3, a0_4, a0_5, a0_6, a0_7, a0_8, a0_9⟩ l0_10 with
  | false =>
    rw [show checkN ⟨a0_0, a0_1, a0_2, a0_3, a0_4, a0_5, a0_6, a0_7, a0_8, a0_9⟩ l0_10 = 2 by simp [checkN, hok]] at f1
    clear hok f2
    simp only [Hd.cs] at f1
    go_enter Tryd.func8, Tryd.ntmps8
    go_wp2_with fail
    refine (alive5_any _ (HK.out.below (Nb.rfl.al _))).mono ?_
    rintro e w1 ⟨rfl, n1⟩
    obtain ⟨c0, c1, c2, c3, c4, c5, c6, c7, c8, c9, c10⟩ := (QA.out.nb n1).c11
    have m1 := (Nb.rfl.al _).tr n1
    go_wp2_with fail
    refine (f1.out _ m1).mono ?_
    rintro e w2 ⟨rfl, n2⟩
    go_wp2
    go_ret
    exact ⟨rfl, m1.tr n2⟩
  | true =>
    rw [show checkN ⟨a0_0, a0_1, a0_2, a0_3, a0_4, a0_5, a0_6, a0_7, a0_8, a0_9⟩ l0_10 = 0 by simp [checkN, hok]] at f1
    have hkn := kinds_any ⟨a0_0, a0_1, a0_2, a0_3, a0_4, a0_5, a0_6, a0_7, a0_8, a0_9⟩ l0_10 hok p7 p8 p9
    have hcs : ∀ k, cntK ⟨a0_0, a0_1, a0_2, a0_3, a0_4, a0_5, a0_6, a0_7, a0_8, a0_9⟩ l0_10 (k + 1) = cntK ⟨a0_0, a0_1, a0_2, a0_3, a0_4, a0_5, a0_6, a0_7, a0_8, a0_9⟩ l0_10 k + (if okF ⟨((k + 1 : Nat) : Int), a0_1, a0_2, a0_3, a0_4, a0_5, a0_6, a0_7, a0_8, a0_9⟩ l0_10 then 1 else 0) := fun _ => rfl
    have hcl := cntK_le ⟨a0_0, a0_1, a0_2, a0_3, a0_4, a0_5, a0_6, a0_7, a0_8, a0_9⟩ l0_10
    obtain ⟨cnt, hcnt⟩ : ∃ cnt, cntK ⟨a0_0, a0_1, a0_2, a0_3, a0_4, a0_5, a0_6, a0_7, a0_8, a0_9⟩ l0_10 = cnt := ⟨_, rfl⟩
    have hc0 : cnt 0 = 0 := by rw [← hcnt]; rfl
    rw [hcnt] at hkn hcl
    simp only [hcnt] at hcs
    have HC := Lib.hid hcs
    have HL := Lib.hid hcl
    have HN := Lib.hid hkn
    have HZ := Lib.hid hc0
    clear hok hcnt hcs hcl hkn hc0
    simp only [Hd.cs] at f1 f2
    go_enter Tryd.func8, Tryd.ntmps8
    go_wp2_with fail
    refine (alive5_any _ (HK.out.below (Nb.rfl.al _))).mono ?_
    rintro e w1 ⟨rfl, n1⟩
    have q1 := QA.out.nb n1
    obtain ⟨c0, c1, c2, c3, c4, c5, c6, c7, c8, c9, c10⟩ := q1.c11
    have m1 : Nb w w1 := (Nb.rfl.al _).tr n1
    have Q1 := Lib.hid q1
    clear q1
    go_wp2_with fail
    refine (f1.out _ m1).mono ?_
    rintro e w2 ⟨rfl, n2⟩
    have Q2 := Lib.hid (Q1.out.nb n2)
    have m2 : Nb w w2 := m1.tr n2
    clear c0 c1 c2 c3 c4 c5 c6 c7 c8 c9 c10 n1 n2 m1
    go_wp2
    go_loopw [3, 4] (fun v i wr => ∃ k : Nat, k ≤ 3 ∧ v = .int .i64 (cnt k : Nat) ∧ i = .int .i64 (k + 1 : Nat) ∧ Nb w2 wr) (fun _ i _ => 4 - (intOf i).toNat)
    case atStart => exact ⟨0, by omega, by rw [HZ.out]; rfl, rfl, Nb.rfl⟩
    case round =>
      obtain ⟨k, hk, rfl, rfl, hnb⟩ := hrel
      obtain ⟨c0, c1, c2, c3, c4, c5, c6, c7, c8, c9, c10⟩ := (Q2.out.nb hnb).c11
      have hck := HL.out k
      by_cases hlt : k < 3
      · have hstep := HC.out k
        have hcall := fun w' (h : Nb w w') => f2.out ((k + 1 : Nat) : Int) w' h
        cases ho : okF ⟨((k + 1 : Nat) : Int), a0_1, a0_2, a0_3, a0_4, a0_5, a0_6, a0_7, a0_8, a0_9⟩ l0_10 with
        | false =>
          rw [ho] at hstep
          simp only [show checkN ⟨((k + 1 : Nat) : Int), a0_1, a0_2, a0_3, a0_4, a0_5, a0_6, a0_7, a0_8, a0_9⟩ l0_10 = 2 by simp only [checkN, ho, Bool.false_eq_true, if_false]] at hcall
          have HS := Lib.hid hstep
          have HCL := Lib.hid hcall
          clear hstep hcall ho
          go_wp2_with fail
          refine (HCL.out _ ((m2.tr hnb).al _)).mono ?_
          rintro e w4 ⟨rfl, n4⟩
          go_wp2
          go_roundw
          case rel => exact ⟨k + 1, by omega, by rw [HS.out]; rfl, by go_num, (hnb.al _).tr n4⟩
          case measure => simp [intOf]; omega
        | true =>
          rw [ho] at hstep
          simp only [show checkN ⟨((k + 1 : Nat) : Int), a0_1, a0_2, a0_3, a0_4, a0_5, a0_6, a0_7, a0_8, a0_9⟩ l0_10 = 0 by simp only [checkN, ho, if_true]] at hcall
          have HS := Lib.hid hstep
          have HCL := Lib.hid hcall
          clear hstep hcall ho
          go_wp2_with fail
          refine (HCL.out _ ((m2.tr hnb).al _)).mono ?_
          rintro e w4 ⟨rfl, n4⟩
          go_wp2
          go_roundw
          case rel => exact ⟨k + 1, by omega, by rw [HS.out]; go_num, by go_num, (hnb.al _).tr n4⟩
          case measure => simp [intOf]; omega
      · obtain rfl : k = 3 := by omega
        rcases HN.out with h1 | ⟨h1, h2⟩
        · rw [h1]
          clear hck
          go_wp2
          all_goals go_ret
          all_goals exact ⟨rfl, m2.tr hnb⟩
        · simp only [flagK, Bool.or_eq_false_iff, decide_eq_false_iff_not] at h2
          obtain ⟨rfl, rfl, rfl, rfl, rfl, z7, z8, z9, z10⟩ := h2
          have d7 : decide ((0 : Int) < a0_7) = false := by simpa using z7
          have d8 : decide ((0 : Int) < a0_8) = false := by simpa using z8
          have d9 : decide ((0 : Int) < a0_9) = false := by simpa using z9
          have hc3 : 1 ≤ cnt 3 := h1
          generalize cnt 3 = cn at *
          clear z7 z8 z9 h1
          go_wp2
          all_goals go_ret
          all_goals exact ⟨by simp; omega, m2.tr hnb⟩

theorem door_met (os : Os) (args : Array Value) : laidMetH Tryd.prog Rows.frameKindsRow.laid ((World.doorLaid Tryd.prog 14 os).forCall (fun _ _ => 0) ⟨#[], args, []⟩).memory :=
  laidMetH_of_parts3 (fuel := 8) (laidMet_of_run' 8 (by kernel_rfl) (by kernel_rfl)) (by kernel_rfl) (by kernel_rfl)
set_option maxHeartbeats 2000000 in
set_option maxRecDepth 100000 in
theorem lifted (os : Os) (started : os.Started) (H : Type) (enc : TypeId × Value → H) :
    ReturnsInHanded {} Tryd.checked os 8 .any (fun w args => (Rows.frameKindsSpec.pre enc Tryd.prog Tryd.f8 [] false w args ∧ laidMetH Tryd.prog Rows.frameKindsRow.laid w) ∧ sizedMet enc Tryd.prog Tryd.f8 (OpenSpec.ofChange Rows.frameKindsSpec) false w args)
      (Rows.frameKindsSpec.post enc Tryd.prog Tryd.f8 false true false false) := by
  refine returnsInHanded_of_change_and (C := Tryd.checked) (X := fun w _ => laidMetH Tryd.prog Rows.frameKindsRow.laid w) (fun _ _ _ hh h => h.of_heap hh) own started (by kernel_rfl) Tryd.func8
    (ChangeSpec.witness_shaped (enc := enc) (C := Tryd.checked) (os := os) (X := fun w _ => laidMetH Tryd.prog Rows.frameKindsRow.laid w) false (World.doorLaid Tryd.prog 14 os) #[.agg #[.int .i64 0, .int .u32 0, .bool false, .bool false, .bool false, .bool false, .bool false, .int .u8 0, .int .u8 0, .int .u32 0, .slice none 0 0]] 8 rfl (World.shaped_of_RefB (by kernel_rfl) (by kernel_rfl)) (by kernel_rfl) (by kernel_rfl) (by kernel_rfl) (door_met os _)) ?_
  intro W base args ds gs before hval0 hW _ hR hL _
  have hval : ∀ (j : Nat) t v, Tryd.f8.params[j]? = some t → args[j]? = some v → Value.okWide Tryd.prog W .any base t v := hval0
  have hW' := hW
  obtain ⟨p, q, hA0, hV, rfl, hfz, hnd⟩ := hW
  have hA : DataW.TrodAll enc Tryd.prog W 0 (fun _ => true) true Tryd.f8.params.toList args.toList ds p := hA0
  rw [Tryd.params8] at hA hval
  obtain ⟨v0, vs0, d0, ds0, p0, q0, hargs, rfl, rfl, h0, r0⟩ := trodAll_cons hA
  obtain ⟨rfl, rfl, rfl⟩ := trodAll_nil r0
  obtain rfl : args = #[v0] := by cases args; simp_all
  obtain ⟨rfl, rfl⟩ := trodVars_none hV
  have k0 := h0
  have lt0 : ∀ x ∈ p0, x.block < W.heap.size := by obtain ⟨m, hm⟩ := k0; exact DataW.trod_lt m _ _ _ hm
  clear hA0
  obtain ⟨cs0, rfl, hz0⟩ := okWide_struct Tryd.underlying25 (hval 0 25 v0 rfl rfl)
  obtain ⟨c0_0, c0_1, c0_2, c0_3, c0_4, c0_5, c0_6, c0_7, c0_8, c0_9, c0_10, rfl⟩ := arr11 (hz0.trans (by kernel_rfl))
  obtain ⟨fu0, hf0⟩ := h0
  have hc0 : DataW.trod enc Tryd.prog W 0 (fun _ => true) true fu0 25 [c0_0, c0_1, c0_2, c0_3, c0_4, c0_5, c0_6, c0_7, c0_8, c0_9, c0_10] = some (d0, p0) := hf0
  obtain ⟨m0_0, y0_0, g0_0⟩ := open_fld Tryd.underlying25 hc0 0 _ rfl
  have t0_0 : DataW.trod enc Tryd.prog W 0 (fun _ => true) true m0_0 3 (([c0_0, c0_1, c0_2, c0_3, c0_4, c0_5, c0_6, c0_7, c0_8, c0_9, c0_10].drop 0).take (Tryd.prog.cellsOf 3)) = some y0_0 := g0_0
  rw [show Tryd.prog.cellsOf 3 = 1 from by kernel_rfl] at t0_0
  have u0_0 : DataW.trod enc Tryd.prog W 0 (fun _ => true) true m0_0 3 [c0_0] = some y0_0 := t0_0
  obtain ⟨m0_1, y0_1, g0_1⟩ := open_fld Tryd.underlying25 hc0 1 _ rfl
  have t0_1 : DataW.trod enc Tryd.prog W 0 (fun _ => true) true m0_1 22 (([c0_0, c0_1, c0_2, c0_3, c0_4, c0_5, c0_6, c0_7, c0_8, c0_9, c0_10].drop 1).take (Tryd.prog.cellsOf 22)) = some y0_1 := g0_1
  rw [show Tryd.prog.cellsOf 22 = 1 from by kernel_rfl] at t0_1
  have u0_1 : DataW.trod enc Tryd.prog W 0 (fun _ => true) true m0_1 22 [c0_1] = some y0_1 := t0_1
  obtain ⟨m0_2, y0_2, g0_2⟩ := open_fld Tryd.underlying25 hc0 2 _ rfl
  have t0_2 : DataW.trod enc Tryd.prog W 0 (fun _ => true) true m0_2 4 (([c0_0, c0_1, c0_2, c0_3, c0_4, c0_5, c0_6, c0_7, c0_8, c0_9, c0_10].drop 2).take (Tryd.prog.cellsOf 4)) = some y0_2 := g0_2
  rw [show Tryd.prog.cellsOf 4 = 1 from by kernel_rfl] at t0_2
  have u0_2 : DataW.trod enc Tryd.prog W 0 (fun _ => true) true m0_2 4 [c0_2] = some y0_2 := t0_2
  obtain ⟨m0_3, y0_3, g0_3⟩ := open_fld Tryd.underlying25 hc0 3 _ rfl
  have t0_3 : DataW.trod enc Tryd.prog W 0 (fun _ => true) true m0_3 4 (([c0_0, c0_1, c0_2, c0_3, c0_4, c0_5, c0_6, c0_7, c0_8, c0_9, c0_10].drop 3).take (Tryd.prog.cellsOf 4)) = some y0_3 := g0_3
  rw [show Tryd.prog.cellsOf 4 = 1 from by kernel_rfl] at t0_3
  have u0_3 : DataW.trod enc Tryd.prog W 0 (fun _ => true) true m0_3 4 [c0_3] = some y0_3 := t0_3
  obtain ⟨m0_4, y0_4, g0_4⟩ := open_fld Tryd.underlying25 hc0 4 _ rfl
  have t0_4 : DataW.trod enc Tryd.prog W 0 (fun _ => true) true m0_4 4 (([c0_0, c0_1, c0_2, c0_3, c0_4, c0_5, c0_6, c0_7, c0_8, c0_9, c0_10].drop 4).take (Tryd.prog.cellsOf 4)) = some y0_4 := g0_4
  rw [show Tryd.prog.cellsOf 4 = 1 from by kernel_rfl] at t0_4
  have u0_4 : DataW.trod enc Tryd.prog W 0 (fun _ => true) true m0_4 4 [c0_4] = some y0_4 := t0_4
  obtain ⟨m0_5, y0_5, g0_5⟩ := open_fld Tryd.underlying25 hc0 5 _ rfl
  have t0_5 : DataW.trod enc Tryd.prog W 0 (fun _ => true) true m0_5 4 (([c0_0, c0_1, c0_2, c0_3, c0_4, c0_5, c0_6, c0_7, c0_8, c0_9, c0_10].drop 5).take (Tryd.prog.cellsOf 4)) = some y0_5 := g0_5
  rw [show Tryd.prog.cellsOf 4 = 1 from by kernel_rfl] at t0_5
  have u0_5 : DataW.trod enc Tryd.prog W 0 (fun _ => true) true m0_5 4 [c0_5] = some y0_5 := t0_5
  obtain ⟨m0_6, y0_6, g0_6⟩ := open_fld Tryd.underlying25 hc0 6 _ rfl
  have t0_6 : DataW.trod enc Tryd.prog W 0 (fun _ => true) true m0_6 4 (([c0_0, c0_1, c0_2, c0_3, c0_4, c0_5, c0_6, c0_7, c0_8, c0_9, c0_10].drop 6).take (Tryd.prog.cellsOf 4)) = some y0_6 := g0_6
  rw [show Tryd.prog.cellsOf 4 = 1 from by kernel_rfl] at t0_6
  have u0_6 : DataW.trod enc Tryd.prog W 0 (fun _ => true) true m0_6 4 [c0_6] = some y0_6 := t0_6
  obtain ⟨m0_7, y0_7, g0_7⟩ := open_fld Tryd.underlying25 hc0 7 _ rfl
  have t0_7 : DataW.trod enc Tryd.prog W 0 (fun _ => true) true m0_7 5 (([c0_0, c0_1, c0_2, c0_3, c0_4, c0_5, c0_6, c0_7, c0_8, c0_9, c0_10].drop 7).take (Tryd.prog.cellsOf 5)) = some y0_7 := g0_7
  rw [show Tryd.prog.cellsOf 5 = 1 from by kernel_rfl] at t0_7
  have u0_7 : DataW.trod enc Tryd.prog W 0 (fun _ => true) true m0_7 5 [c0_7] = some y0_7 := t0_7
  obtain ⟨m0_8, y0_8, g0_8⟩ := open_fld Tryd.underlying25 hc0 8 _ rfl
  have t0_8 : DataW.trod enc Tryd.prog W 0 (fun _ => true) true m0_8 5 (([c0_0, c0_1, c0_2, c0_3, c0_4, c0_5, c0_6, c0_7, c0_8, c0_9, c0_10].drop 8).take (Tryd.prog.cellsOf 5)) = some y0_8 := g0_8
  rw [show Tryd.prog.cellsOf 5 = 1 from by kernel_rfl] at t0_8
  have u0_8 : DataW.trod enc Tryd.prog W 0 (fun _ => true) true m0_8 5 [c0_8] = some y0_8 := t0_8
  obtain ⟨m0_9, y0_9, g0_9⟩ := open_fld Tryd.underlying25 hc0 9 _ rfl
  have t0_9 : DataW.trod enc Tryd.prog W 0 (fun _ => true) true m0_9 22 (([c0_0, c0_1, c0_2, c0_3, c0_4, c0_5, c0_6, c0_7, c0_8, c0_9, c0_10].drop 9).take (Tryd.prog.cellsOf 22)) = some y0_9 := g0_9
  rw [show Tryd.prog.cellsOf 22 = 1 from by kernel_rfl] at t0_9
  have u0_9 : DataW.trod enc Tryd.prog W 0 (fun _ => true) true m0_9 22 [c0_9] = some y0_9 := t0_9
  obtain ⟨m0_10, y0_10, g0_10⟩ := open_fld Tryd.underlying25 hc0 10 _ rfl
  have t0_10 : DataW.trod enc Tryd.prog W 0 (fun _ => true) true m0_10 23 (([c0_0, c0_1, c0_2, c0_3, c0_4, c0_5, c0_6, c0_7, c0_8, c0_9, c0_10].drop 10).take (Tryd.prog.cellsOf 23)) = some y0_10 := g0_10
  rw [show Tryd.prog.cellsOf 23 = 1 from by kernel_rfl] at t0_10
  have u0_10 : DataW.trod enc Tryd.prog W 0 (fun _ => true) true m0_10 23 [c0_10] = some y0_10 := t0_10
  obtain ⟨a0_0, e0_0, x0_0, w0_0⟩ := DataW.trod_int Tryd.underlying3 u0_0
  obtain rfl : c0_0 = .int .i64 a0_0 := by simpa using e0_0
  obtain ⟨a0_1, e0_1, x0_1, w0_1⟩ := DataW.trod_int Tryd.underlying22 u0_1
  obtain rfl : c0_1 = .int .u32 a0_1 := by simpa using e0_1
  obtain ⟨a0_2, e0_2, x0_2⟩ := DataW.trod_bool Tryd.underlying4 u0_2
  obtain rfl : c0_2 = .bool a0_2 := by simpa using e0_2
  obtain ⟨a0_3, e0_3, x0_3⟩ := DataW.trod_bool Tryd.underlying4 u0_3
  obtain rfl : c0_3 = .bool a0_3 := by simpa using e0_3
  obtain ⟨a0_4, e0_4, x0_4⟩ := DataW.trod_bool Tryd.underlying4 u0_4
  obtain rfl : c0_4 = .bool a0_4 := by simpa using e0_4
  obtain ⟨a0_5, e0_5, x0_5⟩ := DataW.trod_bool Tryd.underlying4 u0_5
  obtain rfl : c0_5 = .bool a0_5 := by simpa using e0_5
  obtain ⟨a0_6, e0_6, x0_6⟩ := DataW.trod_bool Tryd.underlying4 u0_6
  obtain rfl : c0_6 = .bool a0_6 := by simpa using e0_6
  obtain ⟨a0_7, e0_7, x0_7, w0_7⟩ := DataW.trod_int Tryd.underlying5 u0_7
  obtain rfl : c0_7 = .int .u8 a0_7 := by simpa using e0_7
  obtain ⟨a0_8, e0_8, x0_8, w0_8⟩ := DataW.trod_int Tryd.underlying5 u0_8
  obtain rfl : c0_8 = .int .u8 a0_8 := by simpa using e0_8
  obtain ⟨a0_9, e0_9, x0_9, w0_9⟩ := DataW.trod_int Tryd.underlying22 u0_9
  obtain rfl : c0_9 = .int .u32 a0_9 := by simpa using e0_9
  obtain ⟨a0_10, cap0_10, l0_10, e0_10, hb0_10, n0_10⟩ := bytes_open u0_10
  subst e0_10
  refine (walk W (longer_of hL) a0_0 w0_0 a0_1 w0_1 a0_2 a0_3 a0_4 a0_5 a0_6 a0_7 w0_7 a0_8 w0_8 a0_9 w0_9 a0_10 cap0_10 l0_10 hb0_10 n0_10).mono fun e W' ⟨he, bel⟩ => ?_
  subst he
  exact ⟨_, rfl, _, _, _, [], _, [], hW', trodAll_mk1 (shut_bool Tryd.underlying4 _), (trodAll_cons_mk (Below.trod laidOut (by kernel_rfl) (of_decide_eq_true (by kernel_rfl)) k0 bel lt0) trodAll_mk0), rfl, bel.frame _, fun h => by cases h⟩

theorem over : Rows.frameKindsRow.holds Tryd.pinned (OpenSpec.ofChange Rows.frameKindsSpec) :=
  OpenClaim.holds_of_wide 8 Tryd.f8 rfl rfl rfl rfl rfl rfl rfl ⟨rfl, rfl, rfl, rfl, rfl⟩ rfl rfl rfl rfl rfl (by kernel_rfl) Tryd.func8 (by kernel_rfl)
    (of_decide_eq_true (by kernel_rfl)) (by unfold Func.isWrapper; first | (rw [if_pos (by decide +kernel)]; kernel_rfl) | (rw [if_neg (by decide +kernel)]; exact ⟨rfl, rfl⟩))
    (fun os started H enc _ => lifted os started H enc)

theorem plain (f : FuncId) (fn : Func) (hf : Tryd.pinned.checked.prog.funcNamed "omnibus/omnibuslaw05.FrameKinds" = some f) (hfn : Tryd.pinned.checked.prog.funcs[f]? = some fn) :
    false = Tryd.pinned.checked.prog.looks [] ∧ ∀ (j : Nat) t, fn.params[j]? = some t → Tryd.pinned.checked.prog.wantsStandIn t = false := by
  obtain rfl : f = 8 := Option.some.inj ((show Tryd.prog.funcNamed "omnibus/omnibuslaw05.FrameKinds" = some 8 by kernel_rfl).symm.trans hf) |>.symm
  obtain rfl : fn = Tryd.f8 := (Option.some.inj (Tryd.func8.symm.trans hfn)).symm
  refine ⟨by kernel_rfl, fun j t ht => ?_⟩
  rw [Tryd.params8] at ht
  have hm : t ∈ [25] := by have := Array.mem_of_getElem? ht; simp at this ⊢; omega
  have hall : ([25].all fun u => !Tryd.prog.wantsStandIn u) = true := by kernel_rfl
  exact (show Tryd.prog.wantsStandIn t = false by simpa using List.all_eq_true.1 hall t hm)
theorem proved : Rows.FrameKindsCardSaid :=
  Claim7.holds_tied_plain_at .later [] _ _ _ _ over (fun _ h => by cases h) (by kernel_rfl) (fun _ h => by cases h) frameKinds_row_tie rfl ⟨rfl, rfl⟩ (by kernel_rfl) rfl plain (by kernel_rfl)
#print axioms proved
end Go.Proofs.YtfclicghkhemlaaDoor.frameKinds
