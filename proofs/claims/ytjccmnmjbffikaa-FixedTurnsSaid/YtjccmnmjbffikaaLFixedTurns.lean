/- For every bit, row, way and place the law FixedTurns answers true and leaves its arguments as they were. No conditions. -/
import Derived.Test.YtjccmnmjbffikaaRows
import Derived.Test.YtjccmnmjbffikaaFixV
import Derived.Test.YtjccmnmjbffikaaOwnI
import Derived.WalkKit
import Derived.ProofKit
import Derived.OpenShut
import Derived.ShutString
import Derived.ChangeOld
import Derived.Below
import Derived.Carry
import Derived.Lib.SmallJoins
import Derived.Deep.RegionWith
import Derived.Deep.RegionHeld3
namespace Go.Proofs.Ytjccmnmjbffikaa.fixedTurns
open Go.ChangeShapes Go.WideShapes Go.ChangeAt Go.RowKit Go.Joins
set_option linter.unusedVariables false
theorem own : ownKnob Try.prog.godebug = none := by kernel_rfl
theorem laidOut : laidOutB Try.prog = true := by kernel_rfl
theorem arr4 {α : Type} {cs : Array α} (h : cs.size = 4) : ∃ c0 c1 c2 c3, cs = #[c0, c1, c2, c3] := by
  obtain ⟨l⟩ := cs
  match l, h with
  | [c0, c1, c2, c3], _ => exact ⟨c0, c1, c2, c3, rfl⟩
set_option maxHeartbeats 8000000 in
set_option maxRecDepth 100000 in
theorem walk (w : World) (a0_0 : Int) (w0_0 : (Lit.int .u8 a0_0).wf = true) (a0_1 : Option Addr) (cap0_1 : Nat) (l0_1 : List Nat) (h0_1 : Bs w a0_1 cap0_1 l0_1) (n0_1 : a0_1 = none → cap0_1 = 0) (a0_2_0 : Int) (w0_2_0 : (Lit.int .i64 a0_2_0).wf = true) (a0_2_1 : Bool) (a1 : Int) (w1 : (Lit.int .u16 a1).wf = true) :
    Calls Try.prog 6 #[.agg #[.int .u8 a0_0, .slice a0_1 l0_1.length cap0_1, .int .i64 a0_2_0, .bool a0_2_1], .int .u16 a1] w fun e w' => e = .returned (.bool true) ∧ Nb w w' := by
  obtain ⟨p, rfl, hp⟩ := u8_of_wf w0_0
  obtain ⟨t, rfl, ht⟩ := u16_of_wf w1
  have hL := h0_1.len
  have H := Lib.hid h0_1
  have hmp : Blk (w.alloc (.cells #[.int .u8 p, .slice a0_1 l0_1.length cap0_1, .int .i64 a0_2_0, .bool a0_2_1] 26)) w.heap.size #[.int .u8 p, .slice a0_1 l0_1.length cap0_1, .int .i64 a0_2_0, .bool a0_2_1] _ := Blk.new w _ _
  have HM := Lib.hid hmp
  clear h0_1 n0_1 w0_0 w1 hmp
  by_cases g1 : 3000 < l0_1.length
  · go_enter Try.func6, Try.ntmps6
    go_wp2_with fail
    refine (alive4_any _).mono ?_
    rintro e w1 ⟨rfl, n1⟩
    obtain ⟨c0, c1, c2, c3⟩ := (HM.out.nb n1).c4
    go_wp2
    go_ret
    exact ⟨rfl, (Nb.rfl.al _).tr n1⟩
  have h1 := fun w hb => fxput_u p a0_1 cap0_1 l0_1 a0_2_0 a0_2_1 w hp hb
  cases hc : fpOk p l0_1 a0_2_0 a0_2_1 with
  | false =>
    obtain ⟨q0, q1⟩ := fp_err hc
    rw [q0, q1] at h1
    have H1 := Lib.hid h1
    clear h1 q0 q1 hc
    go_enter Try.func6, Try.ntmps6
    go_wp2_with fail
    refine (alive4_any _).mono ?_
    rintro e w1 ⟨rfl, n1⟩
    have hB := HM.out.nb n1
    obtain ⟨c0, c1, c2, c3⟩ := hB.c4
    have m1 : Nb w w1 := (Nb.rfl.al _).tr n1
    have hlt1 := hB.lt
    go_wp2_with fail
    have m2' : Nb w (w1.alloc (.cells #[.int .i64 a0_2_0, .bool a0_2_1] 29)) := m1.al _
    refine (H1.out _ (H.out.below m2')).mono ?_
    rintro e w3 ⟨⟨aA, cA, rfl, hfA⟩, n3⟩
    clear hfA
    go_wp2
    go_ret
    exact ⟨rfl, m2'.tr n3⟩
  | true =>
    obtain ⟨q0, -, -, -, -, q5⟩ := fp_back hc
    obtain ⟨o1, o2, o3⟩ := fp_out hc
    have htold := fun i hi hd => fg_told (i := i) hc hi hd
    obtain ⟨E, rfl, hE1, hE64, hp1, -, -⟩ := fp_nat hc
    rw [Int.toNat_natCast] at o1 htold
    rw [q0] at h1
    have h2 := fun Z a c w hb => fxget_u p a c Z E a0_2_1 w hp hb
    generalize fpL p l0_1 (E : Int) a0_2_1 = X at *
    have hXn : X.length ≤ 6000 := by omega
    have hE0 : ((E : Int) == 0) = false := by rw [beq_eq_false_iff_ne]; omega
    have H1 := Lib.hid h1
    have H2 := Lib.hid h2
    have HO1 := Lib.hid o1
    have HO2 := Lib.hid o2
    have HT := Lib.hid htold
    clear h1 h2 o1 o2 o3 htold q0 q5 hc
    by_cases heq : X.length = l0_1.length
    · have deq : ((X.length : Int) == (l0_1.length : Int)) = true := by rw [beq_iff_eq]; omega
      clear heq
      go_enter Try.func6, Try.ntmps6
      go_wp2_with fail
      refine (alive4_any _).mono ?_
      rintro e w1 ⟨rfl, n1⟩
      have hB := HM.out.nb n1
      obtain ⟨c0, c1, c2, c3⟩ := hB.c4
      have m1 : Nb w w1 := (Nb.rfl.al _).tr n1
      have hlt1 := hB.lt
      go_wp2_with fail
      have m2' : Nb w (w1.alloc (.cells #[.int .i64 (E : Int), .bool a0_2_1] 29)) := m1.al _
      have hB2' := hB.al (.cells #[.int .i64 (E : Int), .bool a0_2_1] 29)
      refine (H1.out _ (H.out.below m2')).mono ?_
      rintro e w3 ⟨⟨aA, cA, rfl, hfA⟩, n3⟩
      have hB3 := hB2'.nb n3
      clear hfA c0 c1 c2 c3
      obtain ⟨c0, c1, c2, c3⟩ := hB3.c4
      go_wp2
      go_ret
      exact ⟨rfl, m2'.tr n3⟩
    · have deq : ((X.length : Int) == (l0_1.length : Int)) = false := by rw [beq_eq_false_iff_ne]; omega
      have HNE : Hid (X.length ≠ l0_1.length) := Lib.hid heq
      clear heq
      go_enter Try.func6, Try.ntmps6
      go_wp2_with fail
      refine (alive4_any _).mono ?_
      rintro e w1 ⟨rfl, n1⟩
      have hB := HM.out.nb n1
      obtain ⟨c0, c1, c2, c3⟩ := hB.c4
      have m1 : Nb w w1 := (Nb.rfl.al _).tr n1
      have hlt1 := hB.lt
      go_wp2_with fail
      have m2' : Nb w (w1.alloc (.cells #[.int .i64 (E : Int), .bool a0_2_1] 29)) := m1.al _
      have hB2' := hB.al (.cells #[.int .i64 (E : Int), .bool a0_2_1] 29)
      have hW2 := Blk.new w1 #[.int .i64 (E : Int), .bool a0_2_1] 29
      refine (H1.out _ (H.out.below m2')).mono ?_
      rintro e w3 ⟨⟨aA, cA, rfl, hfA⟩, n3⟩
      have hB3 := hB2'.nb n3
      have hW3 := hW2.nb n3
      have m3 := m2'.tr n3
      have FA := Lib.hid hfA
      have HB3 := Lib.hid hB3
      have HW3 := Lib.hid hW3
      clear hfA c0 c1 c2 c3 hB hB2' hW2
      obtain ⟨c0, c1, c2, c3⟩ := hB3.c4
      obtain ⟨v0, v1⟩ := hW3.c2
      clear hB3 hW3
      go_wp2
      go_loopw [8, 9, 44] (fun v n i wr => ∃ (k : Nat) (ps : List Nat), k ≤ X.length ∧ i = .int .i64 k ∧ n = .int .i64 (fgS E a0_2_1 p (X.take k)).out.length ∧ PlJ E a0_2_1 p X k ps ∧ OwnI wr v (ps.map fun z : Nat => (z : Int)) ∧ (∀ g, v.ownBlock = some g → w3.heap.size ≤ g) ∧ Nb w3 wr) (fun _ _ i _ => X.length - (intOf i).toNat)
      case atStart => exact ⟨0, [], Nat.zero_le _, rfl, rfl, PlJ.zero _ _ _ _, OwnI.nil _, by simp [Value.ownBlock], Nb.rfl⟩
      case round =>
        obtain ⟨k, ps, hk, rfl, rfl, hJ, hown, hblk, hnb⟩ := hrel
        clear c0 c1 c2 c3 v0 v1
        have hW := HW3.out.nb hnb
        obtain ⟨v0, v1⟩ := hW.c2
        by_cases hlt : k < X.length
        · obtain ⟨x, hx⟩ : ∃ x, X[k]? = some x := ⟨X[k], by simp [hlt]⟩
          have hdue := hJ.due hk
          have hl := hJ.len
          have hpl : ps.length ≤ k := by omega
          have hpc : (fgS E a0_2_1 p (X.take k)).due = true → PlJ E a0_2_1 p X (k + 1) (ps ++ [k]) ∧ (fgS E a0_2_1 p (X.take (k + 1))).out.length = (fgS E a0_2_1 p (X.take k)).out.length := fun h => by
            have hJ2 := hJ.place hx h
            have := hJ2.len
            rw [List.length_append, List.length_singleton] at this
            exact ⟨hJ2, by omega⟩
          have hnt := fun h => hJ.nott hx h
          have hgl := fun h0 => hJ.getLt h0
          obtain ⟨n, hn⟩ : ∃ n, (fgS E a0_2_1 p (X.take k)).out.length = n := ⟨_, rfl⟩
          rw [hn] at hdue hl hnt hpc ⊢
          have hnk : n ≤ k := by omega
          have hr := tmod_nat n E
          obtain ⟨m, hm⟩ : ∃ m, n % E = m := ⟨_, rfl⟩
          rw [hm] at hr hdue
          have hmb := beq0 m
          obtain ⟨aP, cP, rfl, hsp, hcp1, hcp2⟩ := hown.shape
          rw [List.length_map] at hsp hcp1 hown hblk ⊢
          unfold maxLen at hcp2
          have HPC := Lib.hid hpc
          have HNT := Lib.hid hnt
          have HOWN := Lib.hid hown
          have HBLK := Lib.hid hblk
          have HSP := Lib.hid hsp
          clear hJ hpc hnt hown hblk hn hm hW hx hl hsp
          by_cases hk0 : k = 0
          · subst hk0
            rw [if_pos rfl] at hdue
            have hnz : ¬ 0 < n := by omega
            clear hr hmb hgl
            cases a0_2_1 with
            | true =>
              have hdt := hdue
              clear hdue
              obtain ⟨hJ2, hn2⟩ := HPC.out hdt
              have hn2' := hn2
              have hal : Kp (fun _ => False) wr (wr.alloc (.cells #[.int .i64 0] 3)) := Kp.alloc
              have hownX := HOWN.out.keep hal (by simp)
              have hcl : (wr.alloc (.cells #[.int .i64 0] 3)).cell? ⟨wr.heap.size, 0, none⟩ = some (.int .i64 0) := (Blk.new wr _ _).cell 0
              have HJ2 := Lib.hid hJ2
              have HN2 := Lib.hid hn2
              have hps : (ps.map fun z : Nat => (z : Int)).length + 1 ≤ 17592186044416 := by rw [List.length_map]; omega
              clear hdt hJ2 hn2 hn2' hal
              go_wp2_with (at_builtin; refine wpList_appI _ rfl (.tmp 82) (.tmp 84) rfl _ _ rfl hownX wr.heap.size 0 rfl hcl hps ?_)
              intro v9 w9 hown9 hk9 hf9
              have hnb9 : Nb w3 w9 := (hnb.al _).trans (hk9.toBelow (Nat.le_trans hnb.size (by simp)) HBLK.out)
              have hbl9 : ∀ g, v9.ownBlock = some g → w3.heap.size ≤ g := fun g hg => by
                rcases hf9 g hg with h | h
                · exact HBLK.out g h
                · have := hnb.size
                  first | omega | (simp at h; omega)
              have HO9 : Hid (OwnI w9 v9 ((ps ++ [0]).map fun z : Nat => (z : Int))) := Lib.hid (by rw [List.map_append]; simpa using hown9)
              have HB9 := Lib.hid hbl9
              clear hown9 hk9 hf9 hbl9 hownX hcl
              go_wp2
              go_roundw
              case rel => exact ⟨0 + 1, ps ++ [0], by omega, by go_num, by rw [HN2.out], HJ2.out, HO9.out, HB9.out, hnb9⟩
              case measure => simp [intOf]; omega
            | false =>
              have hdt := hdue
              clear hdue
              obtain ⟨hJ2, hn2⟩ := HNT.out hdt
              have HJ2 := Lib.hid hJ2
              have HN2 := Lib.hid hn2
              clear hdt hJ2 hn2
              go_wp2
              go_roundw
              case rel => exact ⟨0 + 1, ps, by omega, by go_num, by rw [HN2.out]; go_num, HJ2.out, HOWN.out, HBLK.out, hnb⟩
              case measure => simp [intOf]; omega
          · rw [if_neg hk0] at hdue
            have hkp : 0 < k := by omega
            clear hk0
            by_cases hn0 : n = 0
            · have hdt := hdue.trans (by rw [decide_eq_false (by omega : ¬ 0 < n)]; rfl : _ = false)
              have hnz : ¬ 0 < n := by omega
              clear hn0 hdue hr hmb
              obtain ⟨hJ2, hn2⟩ := HNT.out hdt
              have HJ2 := Lib.hid hJ2
              have HN2 := Lib.hid hn2
              clear hdt hJ2 hn2
              go_wp2
              go_roundw
              case rel => exact ⟨k + 1, ps, by omega, by go_num, by rw [HN2.out]; go_num, HJ2.out, HOWN.out, HBLK.out, hnb⟩
              case measure => simp [intOf]; omega
            · have hnp : 0 < n := by omega
              clear hn0
              by_cases hm0 : m = 0
              · rw [decide_eq_true hnp, decide_eq_true hm0] at hdue
                rw [decide_eq_true hm0] at hmb
                clear hm0
                by_cases hps0 : 0 < ps.length
                · obtain ⟨g, rfl⟩ := HSP.out hps0
                  obtain ⟨L, hLd⟩ : ∃ L, ps.getD (ps.length - 1) 0 = L := ⟨_, rfl⟩
                  have hcl0 := HOWN.out.cell (ps.length - 1) (by rw [List.length_map]; omega)
                  rw [getD_cast, hLd] at hcl0
                  rw [hLd] at hdue hgl
                  have hLk := hgl hps0
                  clear hgl hLd
                  by_cases hLi : L + 1 = k
                  · have hdt := hdue.trans (by rw [decide_eq_true (show 0 < ps.length ∧ L + 1 = k from ⟨hps0, hLi⟩)]; rfl : _ = false)
                    have dL : ((L : Int) == (k : Int) - 1) = true := by rw [beq_iff_eq]; omega
                    clear hdue hLi
                    obtain ⟨hJ2, hn2⟩ := HNT.out hdt
                    have HJ2 := Lib.hid hJ2
                    have HN2 := Lib.hid hn2
                    clear hdt hJ2 hn2
                    go_wp2
                    go_roundw
                    case rel => exact ⟨k + 1, ps, by omega, by go_num, by rw [HN2.out]; go_num, HJ2.out, HOWN.out, HBLK.out, hnb⟩
                    case measure => simp [intOf]; omega
                  · have hdt := hdue.trans (by rw [decide_eq_false (show ¬ (0 < ps.length ∧ L + 1 = k) from fun h => hLi h.2)]; rfl : _ = true)
                    have dL : ((L : Int) == (k : Int) - 1) = false := by rw [beq_eq_false_iff_ne]; omega
                    clear hdue hLi
                    obtain ⟨hJ2, hn2⟩ := HPC.out hdt
                    have hn2' := hn2
                    have hal : Kp (fun _ => False) wr (wr.alloc (.cells #[.int .i64 (k : Int)] 3)) := Kp.alloc
                    have hownX := HOWN.out.keep hal (by simp)
                    have hcl : (wr.alloc (.cells #[.int .i64 (k : Int)] 3)).cell? ⟨wr.heap.size, 0, none⟩ = some (.int .i64 (k : Int)) := (Blk.new wr _ _).cell 0
                    have HJ2 := Lib.hid hJ2
                    have HN2 := Lib.hid hn2
                    have hps : (ps.map fun z : Nat => (z : Int)).length + 1 ≤ 17592186044416 := by rw [List.length_map]; omega
                    clear hdt hJ2 hn2 hn2' hal
                    go_wp2_with (at_builtin; refine wpList_appI _ rfl (.tmp 82) (.tmp 84) rfl _ _ rfl hownX wr.heap.size (k : Int) rfl hcl hps ?_)
                    intro v9 w9 hown9 hk9 hf9
                    have hnb9 : Nb w3 w9 := (hnb.al _).trans (hk9.toBelow (Nat.le_trans hnb.size (by simp)) HBLK.out)
                    have hbl9 : ∀ g, v9.ownBlock = some g → w3.heap.size ≤ g := fun g hg => by
                      rcases hf9 g hg with h | h
                      · exact HBLK.out g h
                      · have := hnb.size
                        first | omega | (simp at h; omega)
                    have HO9 : Hid (OwnI w9 v9 ((ps ++ [k]).map fun z : Nat => (z : Int))) := Lib.hid (by rw [List.map_append]; exact hown9)
                    have HB9 := Lib.hid hbl9
                    clear hown9 hk9 hf9 hbl9 hownX hcl
                    go_wp2
                    go_roundw
                    case rel => exact ⟨k + 1, ps ++ [k], by omega, by go_num, by rw [HN2.out], HJ2.out, HO9.out, HB9.out, hnb9⟩
                    case measure => simp [intOf]; omega
                · have hdt := hdue.trans (by rw [decide_eq_false (show ¬ (0 < ps.length ∧ ps.getD (ps.length - 1) 0 + 1 = k) from fun h => hps0 h.1)]; rfl : _ = true)
                  clear hdue hgl
                  obtain ⟨hJ2, hn2⟩ := HPC.out hdt
                  have hn2' := hn2
                  have hal : Kp (fun _ => False) wr (wr.alloc (.cells #[.int .i64 (k : Int)] 3)) := Kp.alloc
                  have hownX := HOWN.out.keep hal (by simp)
                  have hcl : (wr.alloc (.cells #[.int .i64 (k : Int)] 3)).cell? ⟨wr.heap.size, 0, none⟩ = some (.int .i64 (k : Int)) := (Blk.new wr _ _).cell 0
                  have HJ2 := Lib.hid hJ2
                  have HN2 := Lib.hid hn2
                  have hps : (ps.map fun z : Nat => (z : Int)).length + 1 ≤ 17592186044416 := by rw [List.length_map]; omega
                  clear hdt hJ2 hn2 hn2' hal
                  go_wp2_with (at_builtin; refine wpList_appI _ rfl (.tmp 82) (.tmp 84) rfl _ _ rfl hownX wr.heap.size (k : Int) rfl hcl hps ?_)
                  intro v9 w9 hown9 hk9 hf9
                  have hnb9 : Nb w3 w9 := (hnb.al _).trans (hk9.toBelow (Nat.le_trans hnb.size (by simp)) HBLK.out)
                  have hbl9 : ∀ g, v9.ownBlock = some g → w3.heap.size ≤ g := fun g hg => by
                    rcases hf9 g hg with h | h
                    · exact HBLK.out g h
                    · have := hnb.size
                      first | omega | (simp at h; omega)
                  have HO9 : Hid (OwnI w9 v9 ((ps ++ [k]).map fun z : Nat => (z : Int))) := Lib.hid (by rw [List.map_append]; exact hown9)
                  have HB9 := Lib.hid hbl9
                  clear hown9 hk9 hf9 hbl9 hownX hcl
                  go_wp2
                  go_roundw
                  case rel => exact ⟨k + 1, ps ++ [k], by omega, by go_num, by rw [HN2.out], HJ2.out, HO9.out, HB9.out, hnb9⟩
                  case measure => simp [intOf]; omega
              · rw [decide_eq_false hm0] at hmb
                have hdt := hdue.trans (by rw [decide_eq_false hm0, Bool.and_false]; rfl : _ = false)
                clear hdue hm0
                obtain ⟨hJ2, hn2⟩ := HNT.out hdt
                have HJ2 := Lib.hid hJ2
                have HN2 := Lib.hid hn2
                clear hdt hJ2 hn2
                go_wp2
                go_roundw
                case rel => exact ⟨k + 1, ps, by omega, by go_num, by rw [HN2.out]; go_num, HJ2.out, HOWN.out, HBLK.out, hnb⟩
                case measure => simp [intOf]; omega
        · obtain rfl : k = X.length := by omega
          have hl := hJ.len
          have hall := hJ.all
          rw [List.take_of_length_le (Nat.le_refl _), HO1.out] at hl
          rw [List.take_of_length_le (Nat.le_refl _), HO1.out]
          have hps1 : 0 < ps.length := by have := HNE.out; omega
          have hlp : ((ps.length : Int) != (X.length : Int) - (l0_1.length : Int)) = false := by rw [bne_eq_false_iff_eq]; omega
          have hpX : ps.length ≤ X.length := by omega
          obtain ⟨j, hj⟩ : ∃ j, t % ps.length = j := ⟨_, rfl⟩
          have hjl : j < ps.length := by rw [← hj]; exact Nat.mod_lt _ hps1
          have hjt : Int.tmod (t : Int) (ps.length : Int) = (j : Int) := by rw [← hj]; exact tmod_nat t ps.length
          have hje : (t : Int) % (ps.length : Int) = (j : Int) := by rw [← hj]; push_cast; rfl
          have hp0 : ((ps.length : Int) == 0) = false := by rw [beq_eq_false_iff_ne]; omega
          obtain ⟨kk, hkk⟩ : ∃ kk, ps.getD j 0 = kk := ⟨_, rfl⟩
          obtain ⟨-, hkX, hkd⟩ := hall kk (List.mem_of_getElem? (i := j) (by rw [← hkk]; simp [List.getD, List.getElem?_eq_getElem hjl]))
          have htold := HT.out kk hkX hkd
          obtain ⟨aP, cP, rfl, hsp, hcp1, hcp2⟩ := hown.shape
          rw [List.length_map] at hsp hcp1 hown ⊢
          unfold maxLen at hcp2
          obtain ⟨gp, rfl⟩ := hsp hps1
          have cj := hown.cell j (by rw [List.length_map]; exact hjl)
          rw [getD_cast, hkk] at cj
          have hfx := FA.out.keep hnb
          obtain ⟨g, cg, hva⟩ := hfx.1.shape (by omega)
          simp only [Value.slice.injEq] at hva
          obtain ⟨rfl, -, rfl⟩ := hva
          have hgw : w1.heap.size + 1 ≤ g := by have := hfx.2 g rfl; simpa using this
          have hcX := hfx.1.asBs.1.hcap
          have hmX := hfx.1.asBs.1.hmax
          unfold maxLen at hmX
          obtain ⟨v, hv⟩ : ∃ v, X.getD kk 0 = v := ⟨_, rfl⟩
          have cx := hfx.1.cell kk hkX
          rw [hv] at cx htold
          have hv1 : v ≤ 1 := by rw [← hv]; exact HO2.out _ (List.mem_of_getElem? (i := kk) (by simp [List.getD, List.getElem?_eq_getElem hkX]))
          have hxv := xor1 v hv1
          have hu1 := xor1_le v hv1
          obtain ⟨u, hu⟩ : ∃ u, v ^^^ 1 = u := ⟨_, rfl⟩
          rw [hu] at hxv htold hu1
          have fx := hfx.1.frozen (g := g) rfl kk
          have hset := hfx.1.setByte (g := g) rfl kk hkX u (by omega)
          have hBr := HB3.out.nb hnb
          have hWr := HW3.out.nb hnb
          have hlw := hBr.lt
          have hBs := hBr.other (p := ⟨g, kk, none⟩) (u := .int .u8 (u : Int)) (by simp; omega)
          have hWs := hWr.other (p := ⟨g, kk, none⟩) (u := .int .u8 (u : Int)) (by simp; omega)
          have hms : Nb w (wr.setCell ⟨g, kk, none⟩ (.int .u8 u)) := (m3.tr hnb).st (by have := m1.size; simp; omega) _
          have hg2 := H2.out (X.set kk u) (some ⟨g, 0, none⟩) cA _ hset.asBs.1
          rw [htold, fg_err (by rw [htold]; omega), List.length_set] at hg2
          have HG2 := Lib.hid hg2
          have HMS := Lib.hid hms
          clear v0 v1
          obtain ⟨c0, c1, c2, c3⟩ := hBr.c4
          obtain ⟨v0, v1⟩ := hWr.c2
          obtain ⟨s0, s1, s2, s3⟩ := hBs.c4
          obtain ⟨z0, z1⟩ := hWs.c2
          clear hJ hall hl hj hkk htold hsp hown hblk hfx hv hu hset hBr hWr hBs hWs hg2 hms hkd HT
          go_wp2_with fail
          refine HG2.out.mono ?_
          rintro e w5 ⟨⟨aY, cY, rfl, hfY⟩, n5⟩
          clear hfY
          go_wp2
          go_ret
          exact ⟨rfl, HMS.out.tr n5⟩

set_option maxHeartbeats 2000000 in
set_option maxRecDepth 100000 in
theorem lifted (os : Os) (started : os.Started) (H : Type) (enc : TypeId × Value → H) :
    ReturnsInHanded {} Try.checked os 6 .any (Rows.fixedTurnsSpec.pre6 enc Try.prog Try.f6 Rows.fixedTurnsRow.domain false) (Rows.fixedTurnsSpec.post enc Try.prog Try.f6 false true false false) := by
  refine returnsInHanded_of_change (C := Try.checked) own started (by kernel_rfl) Try.func6
    (ChangeSpec.witness6 (enc := enc) (C := Try.checked) false ⟨#[], #[.agg #[.int .u8 0, .slice none 0 0, .int .i64 0, .bool false], .int .u16 0], []⟩ 8 (by kernel_rfl) (by kernel_rfl) (by kernel_rfl) (by kernel_rfl)) ?_
  intro W base args ds gs before hval0 hW hcnd _
  have hval : ∀ (j : Nat) t v, Try.f6.params[j]? = some t → args[j]? = some v → Value.okWide Try.prog W .any base t v := hval0
  have hW' := hW
  obtain ⟨p, q, hA0, hV, rfl, hfz, hnd⟩ := hW
  have hA : DataW.TrodAll enc Try.prog W 0 (fun _ => true) true Try.f6.params.toList args.toList ds p := hA0
  rw [Try.params6] at hA hval
  obtain ⟨v0, vs0, d0, ds0, p0, q0, hargs, rfl, rfl, h0, r0⟩ := trodAll_cons hA
  obtain ⟨v1, vs1, d1, ds1, p1, q1, rfl, rfl, rfl, h1, r1⟩ := trodAll_cons r0
  obtain ⟨rfl, rfl, rfl⟩ := trodAll_nil r1
  obtain rfl : args = #[v0, v1] := by cases args; simp_all
  obtain ⟨rfl, rfl⟩ := trodVars_none hV
  have k0 := h0
  have lt0 : ∀ x ∈ p0, x.block < W.heap.size := by obtain ⟨m, hm⟩ := k0; exact DataW.trod_lt m _ _ _ hm
  have k1 := h1
  have lt1 : ∀ x ∈ p1, x.block < W.heap.size := by obtain ⟨m, hm⟩ := k1; exact DataW.trod_lt m _ _ _ hm
  clear hA0
  obtain ⟨cs0, rfl, hz0⟩ := okWide_struct Try.underlying26 (hval 0 26 v0 rfl rfl)
  obtain ⟨c0_0, c0_1, c0_2, c0_3, rfl⟩ := arr4 (hz0.trans (by kernel_rfl))
  obtain ⟨fu0, hf0⟩ := h0
  have hc0 : DataW.trod enc Try.prog W 0 (fun _ => true) true fu0 26 [c0_0, c0_1, c0_2, c0_3] = some (d0, p0) := hf0
  obtain ⟨m0_0, y0_0, g0_0⟩ := open_fld Try.underlying26 hc0 0 _ rfl
  have t0_0 : DataW.trod enc Try.prog W 0 (fun _ => true) true m0_0 5 (([c0_0, c0_1, c0_2, c0_3].drop 0).take (Try.prog.cellsOf 5)) = some y0_0 := g0_0
  rw [show Try.prog.cellsOf 5 = 1 from by kernel_rfl] at t0_0
  have u0_0 : DataW.trod enc Try.prog W 0 (fun _ => true) true m0_0 5 [c0_0] = some y0_0 := t0_0
  obtain ⟨m0_1, y0_1, g0_1⟩ := open_fld Try.underlying26 hc0 1 _ rfl
  have t0_1 : DataW.trod enc Try.prog W 0 (fun _ => true) true m0_1 22 (([c0_0, c0_1, c0_2, c0_3].drop 1).take (Try.prog.cellsOf 22)) = some y0_1 := g0_1
  rw [show Try.prog.cellsOf 22 = 1 from by kernel_rfl] at t0_1
  have u0_1 : DataW.trod enc Try.prog W 0 (fun _ => true) true m0_1 22 [c0_1] = some y0_1 := t0_1
  obtain ⟨m0_2, y0_2, g0_2⟩ := open_fld Try.underlying26 hc0 2 _ rfl
  have t0_2 : DataW.trod enc Try.prog W 0 (fun _ => true) true m0_2 24 (([c0_0, c0_1, c0_2, c0_3].drop 2).take (Try.prog.cellsOf 24)) = some y0_2 := g0_2
  rw [show Try.prog.cellsOf 24 = 2 from by kernel_rfl] at t0_2
  have u0_2 : DataW.trod enc Try.prog W 0 (fun _ => true) true m0_2 24 [c0_2, c0_3] = some y0_2 := t0_2
  obtain ⟨m0_2_0, y0_2_0, g0_2_0⟩ := open_fld Try.underlying24 u0_2 0 _ rfl
  have t0_2_0 : DataW.trod enc Try.prog W 0 (fun _ => true) true m0_2_0 3 (([c0_2, c0_3].drop 0).take (Try.prog.cellsOf 3)) = some y0_2_0 := g0_2_0
  rw [show Try.prog.cellsOf 3 = 1 from by kernel_rfl] at t0_2_0
  have u0_2_0 : DataW.trod enc Try.prog W 0 (fun _ => true) true m0_2_0 3 [c0_2] = some y0_2_0 := t0_2_0
  obtain ⟨m0_2_1, y0_2_1, g0_2_1⟩ := open_fld Try.underlying24 u0_2 1 _ rfl
  have t0_2_1 : DataW.trod enc Try.prog W 0 (fun _ => true) true m0_2_1 4 (([c0_2, c0_3].drop 1).take (Try.prog.cellsOf 4)) = some y0_2_1 := g0_2_1
  rw [show Try.prog.cellsOf 4 = 1 from by kernel_rfl] at t0_2_1
  have u0_2_1 : DataW.trod enc Try.prog W 0 (fun _ => true) true m0_2_1 4 [c0_3] = some y0_2_1 := t0_2_1
  obtain ⟨a0_2_0, e0_2_0, x0_2_0, w0_2_0⟩ := DataW.trod_int Try.underlying3 u0_2_0
  obtain rfl : c0_2 = .int .i64 a0_2_0 := by simpa using e0_2_0
  obtain ⟨a0_2_1, e0_2_1, x0_2_1⟩ := DataW.trod_bool Try.underlying4 u0_2_1
  obtain rfl : c0_3 = .bool a0_2_1 := by simpa using e0_2_1
  obtain ⟨a0_0, e0_0, x0_0, w0_0⟩ := DataW.trod_int Try.underlying5 u0_0
  obtain rfl : c0_0 = .int .u8 a0_0 := by simpa using e0_0
  obtain ⟨a0_1, cap0_1, l0_1, e0_1, hb0_1, n0_1⟩ := bytes_open u0_1
  subst e0_1
  obtain ⟨a1, rfl, rfl, rfl, w1⟩ := open_int Try.underlying42 (hval 1 42 v1 rfl rfl) h1
  refine (walk W a0_0 w0_0 a0_1 cap0_1 l0_1 hb0_1 n0_1 a0_2_0 w0_2_0 a0_2_1 a1 w1).mono fun e W' ⟨he, bel⟩ => ?_
  subst he
  exact ⟨_, rfl, _, _, _, [], _, [], hW', trodAll_mk1 (shut_bool Try.underlying4 _), (trodAll_cons_mk (Below.trod laidOut (by kernel_rfl) (of_decide_eq_true (by kernel_rfl)) k0 bel lt0) (trodAll_cons_mk (Below.trod laidOut (by kernel_rfl) (of_decide_eq_true (by kernel_rfl)) k1 bel lt1) trodAll_mk0)), rfl, bel.frame _, fun h => by cases h⟩

theorem over : Rows.fixedTurnsRow.holds Try.pinned (OpenSpec.ofChange Rows.fixedTurnsSpec) :=
  OpenClaim.holds_of_wide 6 Try.f6 rfl rfl rfl rfl rfl rfl rfl ⟨rfl, rfl, rfl, rfl, rfl⟩ rfl rfl rfl rfl rfl (by kernel_rfl) Try.func6 (by kernel_rfl)
    (of_decide_eq_true (by kernel_rfl)) (by unfold Func.isWrapper; first | (rw [if_pos (by decide +kernel)]; kernel_rfl) | (rw [if_neg (by decide +kernel)]; exact ⟨rfl, rfl⟩))
    (fun os started H enc _ => lifted os started H enc)
theorem proved : Rows.FixedTurnsSaid := over
#print axioms proved
end Go.Proofs.Ytjccmnmjbffikaa.fixedTurns
