/- For every state the law FaultHeals answers true and leaves its argument as it was. No conditions. -/
import Derived.Test.YtahemoakehbchaaRows
import Derived.Test.YtahemoakehbchaaFaA
import Derived.Test.YtahemoakehbchaaFaE
import Derived.Test.YtahemoakehbchaaFaP
import Derived.Test.YtahemoakehbchaaInI
import Derived.Test.YtahemoakehbchaaOwnI
import Derived.WalkKit
import Derived.ProofKit
import Derived.OpenShut
import Derived.ShutString
import Derived.ChangeOld
import Derived.Below
import Derived.Carry
import Derived.Lib.SmallJoins
import Derived.Deep.RegionWith
import Derived.Deep.RegionHeld3
namespace Go.Proofs.Ytahemoakehbchaa.faultHeals
open Go.ChangeShapes Go.WideShapes Go.ChangeAt Go.RowKit Go.Joins
set_option linter.unusedVariables false
set_option linter.unusedSimpArgs false
theorem own : ownKnob Try.prog.godebug = none := by kernel_rfl
theorem laidOut : laidOutB Try.prog = true := by kernel_rfl
theorem arr3 {α : Type} {cs : Array α} (h : cs.size = 3) : ∃ c0 c1 c2, cs = #[c0, c1, c2] := by
  obtain ⟨l⟩ := cs
  match l, h with
  | [c0, c1, c2], _ => exact ⟨c0, c1, c2, rfl⟩
theorem own_is {w : World} {v : Value} {l : List Int} (h : OwnI w v l) (hw : ∀ x ∈ l, (Lit.int .i64 x).wf = true) : ∃ a c, v = .slice a l.length c ∧ Is w a c l := by
  obtain ⟨a, c, rfl, h1, h2, h3⟩ := h.shape
  refine ⟨a, c, rfl, h2, h3, hw, fun hl => ?_⟩
  obtain ⟨g, rfl⟩ := h1 hl
  refine ⟨g, 0, rfl, fun j hj => ?_⟩
  rw [Nat.zero_add]
  exact h.cell j hj
theorem heal_all (n : Nat) : (List.replicate n (1 : Int) ++ [2]).all evOk = true := by
  rw [List.all_append, Bool.and_eq_true]
  refine ⟨?_, rfl⟩
  rw [List.all_eq_true]
  intro x hx
  rw [List.eq_of_mem_replicate hx]
  rfl
theorem heal_af {s : Fa} (h : okFa s = true) (n : Nat) : afFa s (List.replicate n (1 : Int) ++ [2]) = doFa ((List.replicate n (1 : Int)).foldl doFa s) 2 ∧ afE s (List.replicate n (1 : Int) ++ [2]) = 0 := by
  unfold afFa afE
  rw [h, heal_all]
  simp [List.foldl_append]
theorem heal_wf (n : Nat) : ∀ x ∈ List.replicate n (1 : Int) ++ [2], (Lit.int .i64 x).wf = true := by
  intro x hx
  rw [List.mem_append] at hx
  rcases hx with hx | hx
  · rw [List.eq_of_mem_replicate hx]
    decide
  · rw [List.mem_singleton] at hx
    rw [hx]
    decide
set_option maxHeartbeats 4000000 in
set_option maxRecDepth 100000 in
theorem walk (w : World) (a0_0 : Int) (w0_0 : (Lit.int .i64 a0_0).wf = true) (a0_1 : Int) (w0_1 : (Lit.int .i64 a0_1).wf = true) (a0_2 : Bool) :
    Calls Try.prog 7 #[.agg #[.int .i64 a0_0, .int .i64 a0_1, .bool a0_2]] w fun e w' => e = .returned (.bool true) ∧ Nb w w' := by
  have AL := Lib.hid (fun w' => alive11_any w')
  obtain ⟨y0, hy0⟩ : ∃ y0, y0 = w.alloc (.cells #[.int .i64 a0_0, .int .i64 a0_1, .bool a0_2] 23) := ⟨_, rfl⟩
  have B0 := Lib.hid (show Blk y0 w.heap.size #[.int .i64 a0_0, .int .i64 a0_1, .bool a0_2] 23 by rw [hy0]; exact Blk.new _ _ _)
  have NY := Lib.hid (show Nb w y0 by rw [hy0]; exact Nb.rfl.al _)
  have HY := Lib.hid hy0
  clear hy0
  have hc := fun w' => fchk11_any ⟨a0_0, a0_1, a0_2⟩ w'
  simp only [Fa.cs] at hc
  by_cases hgood : okFa ⟨a0_0, a0_1, a0_2⟩ = true ∧ a0_2 = false
  rotate_left
  · have hbad : (errFa ⟨a0_0, a0_1, a0_2⟩ = 2) ∨ (errFa ⟨a0_0, a0_1, a0_2⟩ = 0 ∧ a0_2 = true) := by
      unfold errFa
      cases hok : okFa ⟨a0_0, a0_1, a0_2⟩
      · exact .inl rfl
      · right
        refine ⟨rfl, ?_⟩
        cases a0_2
        · exact absurd ⟨hok, rfl⟩ hgood
        · rfl
    clear hgood
    generalize errFa ⟨a0_0, a0_1, a0_2⟩ = E at *
    have HC := Lib.hid hc
    clear hc
    go_enter Try.func7, Try.ntmps7
    go_wp2_with fail
    rw [← HY.out]
    refine (AL.out _).mono ?_
    rintro e z1 ⟨rfl, q1⟩
    have M1 := Lib.hid (NY.out.tr q1)
    obtain ⟨c0, c1, c2⟩ : z1.cell? ⟨w.heap.size, 0, none⟩ = some (.int .i64 a0_0) ∧ z1.cell? ⟨w.heap.size, 1, none⟩ = some (.int .i64 a0_1) ∧ z1.cell? ⟨w.heap.size, 2, none⟩ = some (.bool a0_2) := ⟨(B0.out.nb q1).cell 0, (B0.out.nb q1).cell 1, (B0.out.nb q1).cell 2⟩
    clear q1
    go_wp2_with fail
    obtain ⟨z2, hz2⟩ : ∃ z2, z2 = z1.alloc (.cells #[.int .i64 a0_0, .int .i64 a0_1, .bool a0_2] 25) := ⟨_, rfl⟩
    have BX := Lib.hid (show Blk z2 z1.heap.size #[.int .i64 a0_0, .int .i64 a0_1, .bool a0_2] 25 by rw [hz2]; exact Blk.new _ _ _)
    have M2 := Lib.hid (show Nb w z2 by rw [hz2]; exact Nb.al M1.out _)
    rw [← hz2]
    clear hz2 c0 c1 c2
    refine (HC.out _).mono ?_
    rintro e z3 ⟨rfl, q3⟩
    have x2 : z3.cell? ⟨z1.heap.size, 2, none⟩ = some (.bool a0_2) := (BX.out.nb q3).cell 2
    have M3 := Lib.hid (M2.out.tr q3)
    clear q3
    rcases hbad with rfl | ⟨rfl, rfl⟩
    all_goals go_wp2
    all_goals go_ret
    all_goals exact ⟨rfl, M3.out⟩
  obtain ⟨hok, rfl⟩ := hgood
  obtain ⟨h1, h2, h3, h4, h5⟩ := (okFa_iff _).1 hok
  simp only at h1 h2 h3 h4 h5
  have hT : a0_0 ≤ 255 := by
    have : ¬ 255 < a0_0 := by simpa using h5.symm
    omega
  rw [show errFa ⟨a0_0, a0_1, false⟩ = 0 by simp [errFa, hok]] at hc
  obtain ⟨n, hn⟩ : ∃ n : Nat, (n : Int) = max 0 (a0_0 - 127) := ⟨(max 0 (a0_0 - 127)).toNat, by omega⟩
  have hn128 : n ≤ 128 := by omega
  have hmax := fun (w' : World) (ts : Array TypeId) (t : TypeId) => run_max2' w' ts t .i64 .i64 0 (a0_0 - 127)
  rw [← hn] at hmax
  obtain ⟨hh0, hh1⟩ := fa_heals hok rfl n hn
  obtain ⟨ha, hb⟩ := heal_af hok n
  obtain ⟨ha1, hb1⟩ := heal_af hok (n - 1)
  have ho0 : okFa (afFa ⟨a0_0, a0_1, false⟩ (List.replicate n (1 : Int) ++ [2])) = true := by rw [ha]; exact doFa_ok (fold_ok hok _) 2
  have ho1 : okFa (afFa ⟨a0_0, a0_1, false⟩ (List.replicate (n - 1) (1 : Int) ++ [2])) = true := by rw [ha1]; exact doFa_ok (fold_ok hok _) 2
  rw [← ha] at hh0
  rw [← ha1] at hh1
  obtain ⟨L, hL⟩ : ∃ L, L = List.replicate n (1 : Int) ++ [2] := ⟨_, rfl⟩
  obtain ⟨L1, hL1⟩ : ∃ L1, L1 = List.replicate (n - 1) (1 : Int) ++ [2] := ⟨_, rfl⟩
  have HW := Lib.hid (show ∀ x ∈ L, (Lit.int .i64 x).wf = true by rw [hL]; exact heal_wf n)
  have HLL := Lib.hid hL
  have hLn : L.length = n + 1 := by rw [hL]; simp
  have hL1n : 0 < n → L1.length = n ∧ L.drop 1 = L1 := by
    intro h0
    rw [hL, hL1]
    refine ⟨by simp; omega, ?_⟩
    obtain ⟨m, rfl⟩ : ∃ m, n = m + 1 := ⟨n - 1, by omega⟩
    simp [List.replicate_succ]
  rw [← hL] at hb ho0 hh0
  rw [← hL1] at hb1 ho1 hh1
  have k1 := fun w' a c (h : Is w' a c L) => fafter11_any ⟨a0_0, a0_1, false⟩ a c L w' h
  have k2 := fun w' a c (h : Is w' a c L1) => fafter11_any ⟨a0_0, a0_1, false⟩ a c L1 w' h
  rw [hb] at k1
  rw [hb1] at k2
  clear ha ha1 hb hb1 hL hL1 h5 hn
  generalize afFa ⟨a0_0, a0_1, false⟩ L = y at *
  generalize afFa ⟨a0_0, a0_1, false⟩ L1 = z at *
  have m1 := fun w' => fmode11_any y w'
  have m2 := fun w' => fmode11_any z w'
  rw [if_pos ho0, hh0, show errFa y = 0 by simp [errFa, ho0]] at m1
  have m2' : 0 < n → ∀ w', Calls Try.prog 9 #[.agg z.cs] w' fun e w'' => e = .returned (.tuple #[.int .i64 (1 : Nat), .int .i64 (0 : Nat)]) ∧ Nb w' w'' := by
    intro h0 w'
    have := m2 w'
    rw [if_pos ho1, hh1 h0, show errFa z = 0 by simp [errFa, ho1]] at this
    exact this
  clear m2 hh0 hh1 ho0 ho1 hok
  obtain ⟨T, R, O⟩ := y
  obtain ⟨T2, R2, O2⟩ := z
  simp only [Fa.cs] at k1 k2 m1 m2'
  have K1 := Lib.hid k1
  have K2 := Lib.hid k2
  have KM1 := Lib.hid m1
  have KM2 := Lib.hid m2'
  have HC := Lib.hid hc
  have HL1n := Lib.hid hL1n
  have HLn := Lib.hid hLn
  clear k1 k2 m1 m2' hc hL1n hLn h3 h4
  go_enter Try.func7, Try.ntmps7
  go_wp2_with fail
  rw [← HY.out]
  refine (AL.out _).mono ?_
  rintro e z1 ⟨rfl, q1⟩
  have M1 := Lib.hid (NY.out.tr q1)
  obtain ⟨c0, c1, c2⟩ : z1.cell? ⟨w.heap.size, 0, none⟩ = some (.int .i64 a0_0) ∧ z1.cell? ⟨w.heap.size, 1, none⟩ = some (.int .i64 a0_1) ∧ z1.cell? ⟨w.heap.size, 2, none⟩ = some (.bool false) := ⟨(B0.out.nb q1).cell 0, (B0.out.nb q1).cell 1, (B0.out.nb q1).cell 2⟩
  clear q1
  go_wp2_with fail
  obtain ⟨z2, hz2⟩ : ∃ z2, z2 = z1.alloc (.cells #[.int .i64 a0_0, .int .i64 a0_1, .bool false] 25) := ⟨_, rfl⟩
  have BX := Lib.hid (show Blk z2 z1.heap.size #[.int .i64 a0_0, .int .i64 a0_1, .bool false] 25 by rw [hz2]; exact Blk.new _ _ _)
  have M2 := Lib.hid (show Nb w z2 by rw [hz2]; exact Nb.al M1.out _)
  rw [← hz2]
  clear hz2 c0 c1 c2
  refine (HC.out _).mono ?_
  rintro e z3 ⟨rfl, q3⟩
  have BX3 := Lib.hid (BX.out.nb q3)
  have M3 := Lib.hid (M2.out.tr q3)
  have x0 : z3.cell? ⟨z1.heap.size, 0, none⟩ = some (.int .i64 a0_0) := BX3.out.cell 0
  have x2 : z3.cell? ⟨z1.heap.size, 2, none⟩ = some (.bool false) := BX3.out.cell 2
  have lx := BX3.out.lt
  clear q3
  go_wp2
  clear x0 x2
  go_loopw [5, 29] (fun v i wr => ∃ k : Nat, k ≤ n ∧ i = .int .i64 k ∧ OwnI wr v (List.replicate k 1) ∧ (∀ g, v.ownBlock = some g → z3.heap.size ≤ g) ∧ Nb z3 wr) (fun _ i _ => n - (intOf i).toNat)
  case atStart => exact ⟨0, Nat.zero_le _, rfl, OwnI.nil _, by simp [Value.ownBlock], Nb.rfl⟩
  case round =>
    obtain ⟨k, hk, rfl, hown, hbl, hnb⟩ := hrel
    have HOWN := Lib.hid hown
    have HBLK := Lib.hid hbl
    have N := Lib.hid hnb
    clear hown hbl hnb
    by_cases hlt : k < n
    · have hlt' : (k : Int) < (n : Int) := by omega
      have hownX := HOWN.out.keep (F := fun _ => False) (w' := wr.alloc (.cells #[.int .i64 1] 3)) Kp.alloc (by simp)
      have hcl : (wr.alloc (.cells #[.int .i64 1] 3)).cell? ⟨wr.heap.size, 0, none⟩ = some (.int .i64 1) := (Blk.new wr _ _).cell 0
      have hps : (List.replicate k (1 : Int)).length + 1 ≤ 17592186044416 := by rw [List.length_replicate]; omega
      go_wp2_with (at_builtin; refine wpList_appI _ rfl (.tmp 31) (.tmp 32) rfl _ _ rfl hownX wr.heap.size 1 rfl hcl hps ?_)
      intro v9 w9 hown9 hk9 hf9
      have hnb9 : Nb z3 w9 := (N.out.al _).trans (hk9.toBelow (Nat.le_trans N.out.size (by simp)) HBLK.out)
      have hbl9 : ∀ g, v9.ownBlock = some g → z3.heap.size ≤ g := fun g hg => by
        rcases hf9 g hg with h | h
        · exact HBLK.out g h
        · have := N.out.size
          first | omega | (simp at h; omega)
      have HO9 : Hid (OwnI w9 v9 (List.replicate (k + 1) 1)) := Lib.hid (by rw [List.replicate_succ']; exact hown9)
      have HB9 := Lib.hid hbl9
      have N9 := Lib.hid hnb9
      clear hown9 hk9 hf9 hbl9 hownX hcl hnb9
      go_wp2
      go_roundw
      case rel => exact ⟨k + 1, by omega, by go_num, HO9.out, HB9.out, N9.out⟩
      case measure => simp [intOf]; omega
    · obtain rfl : k = n := by omega
      have hownX := HOWN.out.keep (F := fun _ => False) (w' := wr.alloc (.cells #[.int .i64 2] 3)) Kp.alloc (by simp)
      have hcl : (wr.alloc (.cells #[.int .i64 2] 3)).cell? ⟨wr.heap.size, 0, none⟩ = some (.int .i64 2) := (Blk.new wr _ _).cell 0
      have hps : (List.replicate k (1 : Int)).length + 1 ≤ 17592186044416 := by rw [List.length_replicate]; omega
      go_wp2_with (at_builtin; refine wpList_appI _ rfl (.tmp 35) (.tmp 36) rfl _ _ rfl hownX wr.heap.size 2 rfl hcl hps ?_)
      intro v9 w9 hown9 hk9 hf9
      have hnb9 : Nb z3 w9 := (N.out.al _).trans (hk9.toBelow (Nat.le_trans N.out.size (by simp)) HBLK.out)
      rw [← HLL.out] at hown9
      obtain ⟨a, c, rfl, hIs⟩ := own_is hown9 HW.out
      have HI := Lib.hid hIs
      have BX9 := Lib.hid (BX3.out.nb hnb9)
      have M9 := Lib.hid (M3.out.tr hnb9)
      clear hown9 hk9 hf9 hownX hcl hnb9 hIs hps
      obtain ⟨lx9, x0, x1, x2, _, _, _⟩ := blk3 BX9.out
      go_wp2_with fail
      refine (K1.out _ _ _ HI.out).mono ?_
      rintro e z5 ⟨rfl, q5⟩
      obtain ⟨z6, hz6⟩ : ∃ z6, z6 = z5.alloc (.cells #[.int .i64 T, .int .i64 R, .bool O] 25) := ⟨_, rfl⟩
      have n6 : Nb w9 z6 := by rw [hz6]; exact q5.al _
      have HZ6 := Lib.hid hz6
      have N6 := Lib.hid n6
      clear hz6 q5 n6 x0 x1 x2
      go_wp2_with fail
      rw [← HZ6.out]
      refine (KM1.out _).mono ?_
      rintro e z7 ⟨rfl, q7⟩
      have N7 := Lib.hid (N6.out.tr q7)
      clear q7
      by_cases h0 : k = 0
      · subst h0
        go_wp2
        go_ret
        exact ⟨rfl, M9.out.tr N7.out⟩
      have hk0 : ((k : Int) == 0) = false := by rw [beq_eq_false_iff_ne]; omega
      have hkp : 0 < k := by omega
      clear h0
      obtain ⟨e1, e2⟩ := HL1n.out hkp
      have hl1 : 1 ≤ L.length := by rw [HLn.out]; omega
      have hcut : ∀ w', (Instr.sliceAt 37 (.slice a L.length c) (some (.int .i64 1)) none none).run Try.prog w' = .ok (.slice (cutA a c 1) (L.length - 1) (c - 1)) w' := fun w' => run_cutLI a L.length c 1 hl1 w'
      have k2 := fun w' (m : Nb w9 w') => K2.out w' (cutA a c 1) (c - 1) (by rw [← e2]; exact (HI.out.cutL 1 hl1).below m)
      rw [e1] at k2
      rw [show L.length - 1 = k by rw [HLn.out]; omega] at hcut
      have KK := Lib.hid k2
      have KM := Lib.hid (KM2.out hkp)
      clear k2 e1 e2 hkp
      obtain ⟨lx7, x0, x1, x2, _, _, _⟩ := blk3 (BX9.out.nb N7.out)
      go_wp2
      go_region_with ((go_at_call 15; refine (KK.out _ (by first | exact N7.out.tr (Below.drew (Below.refl _ _)) | exact N7.out.tr (Nb.al (Below.drew (Below.refl _ _)) _))).mono ?_; rintro e z8 ⟨rfl, q8⟩; first | (have xb : Blk z8 z7.heap.size #[.int .i64 0, .int .i64 0, .bool false] 25 := (by exact ((Blk.new z7 #[.int .i64 0, .int .i64 0, .bool false] 25).nb (Below.drew (Below.refl _ _))).nb q8); obtain ⟨xl, x0, x1, x2, g0, g1, g2⟩ := blk3 xb; have XB := Lib.hid xb; clear xb) | skip))
      · have NU := Lib.hid (Nb.al (Nb.tr (Below.drew (Below.refl _ _) : Nb z7 z7.drew) q8) (.cells #[.int .i64 T2, .int .i64 R2, .bool O2] 25))
        clear q8
        go_wp2_with fail
        refine (KM.out _).mono ?_
        rintro e z9 ⟨rfl, q9⟩
        go_wp2
        go_ret
        exact ⟨rfl, M9.out.tr (N7.out.tr (NU.out.tr q9))⟩
      all_goals
        go_wp2_with fail
        obtain ⟨u, hu⟩ : ∃ u, u = p3 z8 z7.heap.size (.int .i64 T2) (.int .i64 R2) (.bool O2) := ⟨_, rfl⟩
        have NU := Lib.hid (show Nb z7 u by rw [hu]; exact p3_nb (Nb.tr (Nb.al (Below.drew (Below.refl _ _) : Nb z7 z7.drew) _) q8) (Nat.le_refl _) _ _ _)
        have BA := Lib.hid (show Blk u z7.heap.size #[.int .i64 T2, .int .i64 R2, .bool O2] 25 by rw [hu]; exact p3_blk _ _ _ XB.out)
        change Calls _ _ _ (p3 z8 z7.heap.size (.int .i64 T2) (.int .i64 R2) (.bool O2)) _
        rw [← hu]
        clear hu
        refine (KM.out _).mono ?_
        rintro e z9 ⟨rfl, q9⟩
        go_wp2
        go_ret
        exact ⟨rfl, M9.out.tr (N7.out.tr (NU.out.tr q9))⟩

set_option maxHeartbeats 2000000 in
set_option maxRecDepth 100000 in
theorem lifted (os : Os) (started : os.Started) (H : Type) (enc : TypeId × Value → H) :
    ReturnsInHanded {} Try.checked os 7 .any (Rows.faultHealsSpec.pre6 enc Try.prog Try.f7 Rows.faultHealsRow.domain false) (Rows.faultHealsSpec.post enc Try.prog Try.f7 false true false false) := by
  refine returnsInHanded_of_change (C := Try.checked) own started (by kernel_rfl) Try.func7
    (ChangeSpec.witness6 (enc := enc) (C := Try.checked) false ⟨#[], #[.agg #[.int .i64 0, .int .i64 0, .bool false]], []⟩ 8 (by kernel_rfl) (by kernel_rfl) (by kernel_rfl) (by kernel_rfl)) ?_
  intro W base args ds gs before hval0 hW hcnd _
  have hval : ∀ (j : Nat) t v, Try.f7.params[j]? = some t → args[j]? = some v → Value.okWide Try.prog W .any base t v := hval0
  have hW' := hW
  obtain ⟨p, q, hA0, hV, rfl, hfz, hnd⟩ := hW
  have hA : DataW.TrodAll enc Try.prog W 0 (fun _ => true) true Try.f7.params.toList args.toList ds p := hA0
  rw [Try.params7] at hA hval
  obtain ⟨v0, vs0, d0, ds0, p0, q0, hargs, rfl, rfl, h0, r0⟩ := trodAll_cons hA
  obtain ⟨rfl, rfl, rfl⟩ := trodAll_nil r0
  obtain rfl : args = #[v0] := by cases args; simp_all
  obtain ⟨rfl, rfl⟩ := trodVars_none hV
  have k0 := h0
  have lt0 : ∀ x ∈ p0, x.block < W.heap.size := by obtain ⟨m, hm⟩ := k0; exact DataW.trod_lt m _ _ _ hm
  clear hA0
  obtain ⟨cs0, rfl, hz0⟩ := okWide_struct Try.underlying23 (hval 0 23 v0 rfl rfl)
  obtain ⟨c0_0, c0_1, c0_2, rfl⟩ := arr3 (hz0.trans (by kernel_rfl))
  obtain ⟨fu0, hf0⟩ := h0
  have hc0 : DataW.trod enc Try.prog W 0 (fun _ => true) true fu0 23 [c0_0, c0_1, c0_2] = some (d0, p0) := hf0
  obtain ⟨m0_0, y0_0, g0_0⟩ := open_fld Try.underlying23 hc0 0 _ rfl
  have t0_0 : DataW.trod enc Try.prog W 0 (fun _ => true) true m0_0 3 (([c0_0, c0_1, c0_2].drop 0).take (Try.prog.cellsOf 3)) = some y0_0 := g0_0
  rw [show Try.prog.cellsOf 3 = 1 from by kernel_rfl] at t0_0
  have u0_0 : DataW.trod enc Try.prog W 0 (fun _ => true) true m0_0 3 [c0_0] = some y0_0 := t0_0
  obtain ⟨m0_1, y0_1, g0_1⟩ := open_fld Try.underlying23 hc0 1 _ rfl
  have t0_1 : DataW.trod enc Try.prog W 0 (fun _ => true) true m0_1 3 (([c0_0, c0_1, c0_2].drop 1).take (Try.prog.cellsOf 3)) = some y0_1 := g0_1
  rw [show Try.prog.cellsOf 3 = 1 from by kernel_rfl] at t0_1
  have u0_1 : DataW.trod enc Try.prog W 0 (fun _ => true) true m0_1 3 [c0_1] = some y0_1 := t0_1
  obtain ⟨m0_2, y0_2, g0_2⟩ := open_fld Try.underlying23 hc0 2 _ rfl
  have t0_2 : DataW.trod enc Try.prog W 0 (fun _ => true) true m0_2 4 (([c0_0, c0_1, c0_2].drop 2).take (Try.prog.cellsOf 4)) = some y0_2 := g0_2
  rw [show Try.prog.cellsOf 4 = 1 from by kernel_rfl] at t0_2
  have u0_2 : DataW.trod enc Try.prog W 0 (fun _ => true) true m0_2 4 [c0_2] = some y0_2 := t0_2
  obtain ⟨a0_0, e0_0, x0_0, w0_0⟩ := DataW.trod_int Try.underlying3 u0_0
  obtain rfl : c0_0 = .int .i64 a0_0 := by simpa using e0_0
  obtain ⟨a0_1, e0_1, x0_1, w0_1⟩ := DataW.trod_int Try.underlying3 u0_1
  obtain rfl : c0_1 = .int .i64 a0_1 := by simpa using e0_1
  obtain ⟨a0_2, e0_2, x0_2⟩ := DataW.trod_bool Try.underlying4 u0_2
  obtain rfl : c0_2 = .bool a0_2 := by simpa using e0_2
  refine (walk W a0_0 w0_0 a0_1 w0_1 a0_2).mono fun e W' ⟨he, bel⟩ => ?_
  subst he
  exact ⟨_, rfl, _, _, _, [], _, [], hW', trodAll_mk1 (shut_bool Try.underlying4 _), (trodAll_cons_mk (Below.trod laidOut (by kernel_rfl) (of_decide_eq_true (by kernel_rfl)) k0 bel lt0) trodAll_mk0), rfl, bel.frame _, fun h => by cases h⟩

theorem over : Rows.faultHealsRow.holds Try.pinned (OpenSpec.ofChange Rows.faultHealsSpec) :=
  OpenClaim.holds_of_wide 7 Try.f7 rfl rfl rfl rfl rfl rfl rfl ⟨rfl, rfl, rfl, rfl, rfl⟩ rfl rfl rfl rfl rfl (by kernel_rfl) Try.func7 (by kernel_rfl)
    (of_decide_eq_true (by kernel_rfl)) (by unfold Func.isWrapper; first | (rw [if_pos (by decide +kernel)]; kernel_rfl) | (rw [if_neg (by decide +kernel)]; exact ⟨rfl, rfl⟩))
    (fun os started H enc _ => lifted os started H enc)
theorem proved : Rows.FaultHealsSaid := over
#print axioms proved
end Go.Proofs.Ytahemoakehbchaa.faultHeals
