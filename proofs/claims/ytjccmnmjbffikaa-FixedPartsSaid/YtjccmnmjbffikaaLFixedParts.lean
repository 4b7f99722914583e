/- For every bit, row, way and number of parts the law FixedParts answers true and leaves its arguments as they were. No conditions. -/
import Derived.Test.YtjccmnmjbffikaaRows
import Derived.Test.YtjccmnmjbffikaaFixL
import Derived.WalkKit
import Derived.ProofKit
import Derived.OpenShut
import Derived.ShutString
import Derived.ChangeOld
import Derived.Below
import Derived.Carry
import Derived.Lib.SmallJoins
import Derived.Deep.RegionWith
import Derived.Deep.RegionHeld3
namespace Go.Proofs.Ytjccmnmjbffikaa.fixedParts
open Go.ChangeShapes Go.WideShapes Go.ChangeAt Go.RowKit Go.Joins
set_option linter.unusedVariables false
theorem own : ownKnob Try.prog.godebug = none := by kernel_rfl
theorem laidOut : laidOutB Try.prog = true := by kernel_rfl
theorem arr4 {α : Type} {cs : Array α} (h : cs.size = 4) : ∃ c0 c1 c2 c3, cs = #[c0, c1, c2, c3] := by
  obtain ⟨l⟩ := cs
  match l, h with
  | [c0, c1, c2, c3], _ => exact ⟨c0, c1, c2, c3, rfl⟩
set_option maxHeartbeats 8000000 in
set_option maxRecDepth 100000 in
theorem walk (w : World) (a0_0 : Int) (w0_0 : (Lit.int .u8 a0_0).wf = true) (a0_1 : Option Addr) (cap0_1 : Nat) (l0_1 : List Nat) (h0_1 : Bs w a0_1 cap0_1 l0_1) (n0_1 : a0_1 = none → cap0_1 = 0) (a0_2_0 : Int) (w0_2_0 : (Lit.int .i64 a0_2_0).wf = true) (a0_2_1 : Bool) (a1 : Int) (w1 : (Lit.int .u8 a1).wf = true) :
    Calls Try.prog 8 #[.agg #[.int .u8 a0_0, .slice a0_1 l0_1.length cap0_1, .int .i64 a0_2_0, .bool a0_2_1], .int .u8 a1] w fun e w' => e = .returned (.bool true) ∧ Nb w w' := by
  obtain ⟨p, rfl, hp⟩ := u8_of_wf w0_0
  obtain ⟨t, rfl, ht⟩ := u8_of_wf w1
  have hL := h0_1.len
  have H := Lib.hid h0_1
  have hmp : Blk (w.alloc (.cells #[.int .u8 p, .slice a0_1 l0_1.length cap0_1, .int .i64 a0_2_0, .bool a0_2_1] 26)) w.heap.size #[.int .u8 p, .slice a0_1 l0_1.length cap0_1, .int .i64 a0_2_0, .bool a0_2_1] _ := Blk.new w _ _
  have HM := Lib.hid hmp
  clear h0_1 w0_0 w1 hmp
  by_cases g1 : 2000 < l0_1.length
  · go_enter Try.func8, Try.ntmps8
    go_wp2_with fail
    refine (alive4_any _).mono ?_
    rintro e w1 ⟨rfl, n1⟩
    obtain ⟨c0, c1, c2, c3⟩ := (HM.out.nb n1).c4
    go_wp2
    go_ret
    exact ⟨rfl, (Nb.rfl.al _).tr n1⟩
  by_cases g2 : 1 < p
  · go_enter Try.func8, Try.ntmps8
    go_wp2_with fail
    refine (alive4_any _).mono ?_
    rintro e w1 ⟨rfl, n1⟩
    obtain ⟨c0, c1, c2, c3⟩ := (HM.out.nb n1).c4
    go_wp2
    go_ret
    exact ⟨rfl, (Nb.rfl.al _).tr n1⟩
  cases hc : chk l0_1 with
  | false =>
    have HC := Lib.hid hc
    clear hc
    go_enter Try.func8, Try.ntmps8
    go_wp2_with fail
    refine (alive4_any _).mono ?_
    rintro e w1 ⟨rfl, n1⟩
    have m1 : Nb w w1 := (Nb.rfl.al _).tr n1
    obtain ⟨c0, c1, c2, c3⟩ := (HM.out.nb n1).c4
    go_wp2_with fail
    refine (check_bad a0_1 cap0_1 l0_1 _ (H.out.below m1) HC.out).mono ?_
    rintro e w2 ⟨rfl, rfl⟩
    go_wp2
    go_ret
    exact ⟨rfl, m1⟩
  | true =>
    by_cases g4 : a0_2_0 < 1
    · have HC := Lib.hid hc
      clear hc
      go_enter Try.func8, Try.ntmps8
      go_wp2_with fail
      refine (alive4_any _).mono ?_
      rintro e w1 ⟨rfl, n1⟩
      have m1 : Nb w w1 := (Nb.rfl.al _).tr n1
      obtain ⟨c0, c1, c2, c3⟩ := (HM.out.nb n1).c4
      go_wp2_with fail
      refine (check_ok a0_1 cap0_1 l0_1 _ (H.out.below m1) HC.out).mono ?_
      rintro e w2 ⟨rfl, rfl⟩
      go_wp2
      go_ret
      exact ⟨rfl, m1⟩
    by_cases g5 : 64 < a0_2_0
    · have HC := Lib.hid hc
      clear hc
      go_enter Try.func8, Try.ntmps8
      go_wp2_with fail
      refine (alive4_any _).mono ?_
      rintro e w1 ⟨rfl, n1⟩
      have m1 : Nb w w1 := (Nb.rfl.al _).tr n1
      obtain ⟨c0, c1, c2, c3⟩ := (HM.out.nb n1).c4
      go_wp2_with fail
      refine (check_ok a0_1 cap0_1 l0_1 _ (H.out.below m1) HC.out).mono ?_
      rintro e w2 ⟨rfl, rfl⟩
      go_wp2
      go_ret
      exact ⟨rfl, m1⟩
    obtain ⟨E, rfl⟩ := Int.eq_ofNat_of_zero_le (by omega : 0 ≤ a0_2_0)
    have hE1 : 1 ≤ E := by omega
    have hE64 : E ≤ 64 := by omega
    have hp1 : p ≤ 1 := by omega
    have hl2 : l0_1.length ≤ 2000 := by omega
    obtain ⟨q, hq⟩ : ∃ q, q = l0_1.length / E := ⟨_, rfl⟩
    have hqE : q * E ≤ l0_1.length := by rw [hq]; exact Nat.div_mul_le_self _ _
    have hqb : q ≤ 2000 := by
      have : q * 1 ≤ q * E := Nat.mul_le_mul_left q hE1
      omega
    obtain ⟨x, hx⟩ : ∃ x, x = t * E := ⟨_, rfl⟩
    obtain ⟨y, hy⟩ : ∃ y, y = q * E := ⟨_, rfl⟩
    have hxb : x ≤ 16384 := by
      have h1 : t * E ≤ t * 64 := Nat.mul_le_mul_left t hE64
      omega
    obtain ⟨K, hK⟩ : ∃ K, K = min x y := ⟨_, rfl⟩
    have hKl : K ≤ l0_1.length := by omega
    have hKm : K % E = 0 := by
      rw [hK]
      rcases Nat.le_total x y with h | h
      · rw [Nat.min_eq_left h, hx, Nat.mul_mod_left]
      · rw [Nat.min_eq_right h, hy, Nat.mul_mod_left]
    have xE : (t : Int) * (E : Int) = (x : Int) := by rw [hx]; push_cast; rfl
    have yE : (q : Int) * (E : Int) = (y : Int) := by rw [hy]; push_cast; rfl
    have qd : (l0_1.length : Int) / (E : Int) = (q : Int) := by rw [hq]; push_cast; rfl
    have qt : Int.tdiv (l0_1.length : Int) (E : Int) = (q : Int) := by rw [hq, Int.tdiv_eq_ediv_of_nonneg (by omega)]; push_cast; rfl
    have hmin : ∀ ts t w, (Builtin.min_ ts t #[.int .i64 (x : Int), .int .i64 (y : Int)]).run Try.prog w = .ok (.int .i64 K) w := fun ts t w => by
      rw [run_min2, show min (x : Int) (y : Int) = (K : Int) from by omega]
    have hE0 : ((E : Int) == 0) = false := by rw [beq_eq_false_iff_ne]; omega
    have hyb : y ≤ 2000 := by omega
    have hlenK : (l0_1.take K).length = K := by rw [List.length_take]; omega
    -- the three rows
    have hcT : chk (l0_1.take K) = true := chk_mk (fun z hz => chk_bit hc z (List.mem_of_mem_take hz)) (by omega)
    have hbt := chk_bit hcT
    have s0 := szF_le2 E a0_2_1 l0_1.length
    have s1 := szF_le2 E a0_2_1 K
    have hX := fxPut_len (E := E) a0_2_1 p l0_1
    have hA := fxPut_len (E := E) a0_2_1 p (l0_1.take K)
    rw [hlenK] at hA
    have hAg := szF_ge E a0_2_1 K
    have hAb := fxPut_bit (E := E) (A := a0_2_1) (p := p) hbt
    have hpar : 0 < K → fxPut E a0_2_1 p l0_1 = fxPut E a0_2_1 p (l0_1.take K) ++ fxPut E true (lastP p (fxPut E a0_2_1 p (l0_1.take K))) (l0_1.drop K) := fun h0 => by
      have := fx_parts (E := E) a0_2_1 p (l1 := l0_1.take K) (by omega) (by rw [hlenK]; exact hKm) (l0_1.drop K)
      rwa [List.take_append_drop] at this
    have h1 := fun w hb => fxput_ok p a0_1 cap0_1 l0_1 E a0_2_1 w hp1 hb hE1 hE64 hc (by omega)
    have h2 := fun a c w hb => fxput_ok p a c (l0_1.take K) E a0_2_1 w hp1 hb hE1 hE64 hcT (by rw [hlenK]; omega)
    rw [hlenK] at h2
    obtain ⟨X, hX2⟩ : ∃ X, fxPut E a0_2_1 p l0_1 = X := ⟨_, rfl⟩
    obtain ⟨P, hP2⟩ : ∃ P, fxPut E a0_2_1 p (l0_1.take K) = P := ⟨_, rfl⟩
    rw [hX2] at hX h1 hpar
    rw [hP2] at hA h2 hpar hAb
    have hXn : X.length ≤ 4000 := by omega
    have hPn : P.length ≤ 4000 := by omega
    have hPK : K ≤ P.length := by omega
    have HC := Lib.hid hc
    have H1 := Lib.hid h1
    have H2 := Lib.hid h2
    have HPar := Lib.hid hpar
    have HAb := Lib.hid hAb
    clear hc hX hA hAg s0 s1 hX2 hP2 h1 h2 hpar hAb hbt hcT hlenK hKm hK hx hy hq hqE
    go_enter Try.func8, Try.ntmps8
    go_wp2_with fail
    refine (alive4_any _).mono ?_
    rintro e w1 ⟨rfl, n1⟩
    have m1 : Nb w w1 := (Nb.rfl.al _).tr n1
    have hB1 := HM.out.nb n1
    obtain ⟨c0, c1, c2, c3⟩ := hB1.c4
    have hlt1 := hB1.lt
    go_wp2_with fail
    refine (check_ok a0_1 cap0_1 l0_1 _ (H.out.below m1) HC.out).mono ?_
    rintro e w2 ⟨rfl, rfl⟩
    have hW2 := Blk.new w1 #[.int .i64 (E : Int), .bool a0_2_1] 29
    have hB2 := hB1.al (.cells #[.int .i64 (E : Int), .bool a0_2_1] 29)
    have m2 : Nb w (w1.alloc (.cells #[.int .i64 (E : Int), .bool a0_2_1] 29)) := m1.al _
    go_wp2_with fail
    obtain ⟨w2, hw2⟩ : ∃ w2, w2 = w1.alloc (.cells #[.int .i64 (E : Int), .bool a0_2_1] 29) := ⟨_, rfl⟩
    rw [← hw2] at hW2 hB2 m2 ⊢
    clear c0 c1 c2 c3 hB1 hw2
    obtain ⟨c0, c1, c2, c3⟩ := hB2.c4
    obtain ⟨v0, v1⟩ := hW2.c2
    go_quiet (fail)
    rename_i nq
    have hW3 := hW2.nb (Nb.drewN w2 nq)
    have hB3 := hB2.nb (Nb.drewN w2 nq)
    have m3 : Nb w (w2.drewN nq) := m2.tr (Nb.drewN _ _)
    obtain ⟨w3, hw3⟩ : ∃ w3, w3 = w2.drewN nq := ⟨_, rfl⟩
    rw [← hw3] at hW3 hB3 m3 ⊢
    clear c0 c1 c2 c3 v0 v1 hB2 hW2 hw3 m2
    obtain ⟨c0, c1, c2, c3⟩ := hB3.c4
    obtain ⟨v0, v1⟩ := hW3.c2
    go_wp2_with fail
    refine (H1.out _ (H.out.below m3)).mono ?_
    rintro e w4 ⟨⟨aX, cX, rfl, hfX⟩, n4⟩
    have FX := Lib.hid hfX
    have hB4 := hB3.nb n4
    have hW4 := hW3.nb n4
    have m4 := m3.tr n4
    clear hfX c0 c1 c2 c3 v0 v1 hB3 hW3
    obtain ⟨c0, c1, c2, c3⟩ := hB4.c4
    obtain ⟨v0, v1⟩ := hW4.c2
    have hcap := H.out.hcap
    have hcT := fun w => run_cutH a0_1 l0_1.length cap0_1 K (by omega) w
    have hcD := fun w => run_cutL a0_1 l0_1.length cap0_1 K hKl w
    obtain ⟨aD, haD⟩ : ∃ aD, cutA a0_1 cap0_1 K = aD := ⟨_, rfl⟩
    rw [haD] at hcD
    have HDr : ∀ w', Nb w w' → Bs w' aD (cap0_1 - K) (l0_1.drop K) := fun w' hn => by rw [← haD]; exact (H.out.below hn).cutL K hKl
    have HDR := Lib.hid HDr
    clear haD HDr
    go_wp2_with fail
    go_region_held3 (fun w' => w'.cell? ⟨w.heap.size, 0, none⟩ = some (.int .u8 p) ∧ w'.cell? ⟨w.heap.size, 1, none⟩ = some (.slice a0_1 l0_1.length cap0_1) ∧ w'.cell? ⟨w1.heap.size, 0, none⟩ = some (.int .i64 E) ∧ w'.cell? ⟨w1.heap.size, 1, none⟩ = some (.bool a0_2_1)) (first | go_keep | exact ⟨(hB4.nb (Nb.tr (Below.drew (Below.refl _ _) : Nb w4 w4.drew) n6)).cell 0, (hB4.nb (Nb.tr (Below.drew (Below.refl _ _) : Nb w4 w4.drew) n6)).cell 1, (hW4.nb (Nb.tr (Below.drew (Below.refl _ _) : Nb w4 w4.drew) n6)).cell 0, (hW4.nb (Nb.tr (Below.drew (Below.refl _ _) : Nb w4 w4.drew) n6)).cell 1⟩) ((go_at_call 11; refine (H2.out _ _ _ (by first | exact (H.out.below m4).head K | exact (H.out.below (Below.drew m4)).head K)).mono ?_; rintro e w6 ⟨⟨aA, cA, rfl, hfA⟩, n6⟩))
    have hB5 := hB4.nb (Below.drew (Below.refl _ _) : Nb w4 w4.drew)
    have hW5 := hW4.nb (Below.drew (Below.refl _ _) : Nb w4 w4.drew)
    have m5 : Nb w w4.drew := Below.drew m4
    have n46 : Nb w4 w6 := Nb.tr (Below.drew (Below.refl _ _) : Nb w4 w4.drew) n6
    clear c0 c1 c2 c3 v0 v1 hB4 hW4
    have FA := Lib.hid hfA
    have hB6 := hB5.nb n6
    have hW6 := hW5.nb n6
    have m6 := m5.tr n6
    clear hfA hB5 hW5
    obtain ⟨c0, c1, c2, c3⟩ := hB6.c4
    obtain ⟨v0, v1⟩ := hW6.c2
    by_cases hK0 : K = 0
    · subst hK0
      go_wp2
      go_ret
      exact ⟨rfl, m6⟩
    · have hKp : 0 < K := by omega
      have hpar := HPar.out hKp
      obtain ⟨la, hla⟩ : ∃ la, lastP p P = la := ⟨_, rfl⟩
      have hla1 : la ≤ 1 := by rw [← hla]; exact lastP_le hp1 HAb.out
      have hlaG : P.getD (P.length - 1) 0 = la := by
        rw [← hla]
        unfold lastP
        rw [if_neg (by intro h; rw [h] at hPK; simp at hPK; omega)]
      rw [hla] at hpar
      obtain ⟨gA, cgA, hvA⟩ := FA.out.1.shape (by omega)
      simp only [Value.slice.injEq] at hvA
      obtain ⟨rfl, -, rfl⟩ := hvA
      have cl := FA.out.1.cell (P.length - 1) (by omega)
      rw [hlaG] at cl
      have hclk : ∀ w', Nb w6 w' → w'.cell? ⟨gA, P.length - 1, none⟩ = some (.int .u8 (la : Nat)) := fun w' hn => by
        have := (FA.out.1.keep (F := fun _ => False) (Kp.ofNb hn) (by simp)).cell (P.length - 1) (by omega)
        rwa [hlaG] at this
      have HCL := Lib.hid hclk
      clear hclk
      have hcapA := FA.out.1.asBs.1.hcap
      have hmaxA := FA.out.1.asBs.1.hmax
      unfold maxLen at hmaxA
      have hpl1 : ((P.length : Int) - 1) < (P.length : Int) := by omega
      have hlD : (l0_1.drop K).length = l0_1.length - K := by rw [List.length_drop]
      have hcD2 : chk (l0_1.drop K) = true := chk_mk (fun z hz => chk_bit HC.out z (List.mem_of_mem_drop hz)) (by omega)
      have s3 := szF_le2 E true (l0_1.length - K)
      have h3 := fun w hb => fxput_ok la aD (cap0_1 - K) (l0_1.drop K) E true w hla1 hb hE1 hE64 hcD2 (by rw [hlD]; omega)
      have hDl := fxPut_len (E := E) true la (l0_1.drop K)
      rw [hlD] at h3 hDl
      obtain ⟨D, hD⟩ : ∃ D, fxPut E true la (l0_1.drop K) = D := ⟨_, rfl⟩
      rw [hD] at h3 hDl hpar
      have hDn : D.length ≤ 4000 := by omega
      have H3 := Lib.hid h3
      have HX := Lib.hid hpar
      clear hpar hla hlaG hlD hcD2 s3 h3 hDl hD HPar HAb hK0
      go_wp2_with fail
      obtain ⟨z, hz⟩ : ∃ z, P.length - 1 = z := ⟨_, rfl⟩
      have hwr : IntKind.i64.wrap ((P.length : Int) - 1) = (z : Int) := by rw [IntWalk.i64_in _ (by omega)]; omega
      have hz0 : (0 : Int) ≤ (z : Int) := by omega
      have hz1 : (z : Int) < (P.length : Int) := by omega
      rw [hz] at cl HCL
      clear hz
      go_region_held3 (fun w' => w'.cell? ⟨gA, z, none⟩ = some (.int .u8 la) ∧ w'.cell? ⟨w.heap.size, 1, none⟩ = some (.slice a0_1 l0_1.length cap0_1) ∧ w'.cell? ⟨w1.heap.size, 0, none⟩ = some (.int .i64 E)) (first | go_keep | exact ⟨HCL.out _ (Nb.tr (Below.drew (Below.refl _ _) : Nb w6 w6.drew) n7), (hB6.nb (Nb.tr (Below.drew (Below.refl _ _) : Nb w6 w6.drew) n7)).cell 1, (hW6.nb (Nb.tr (Below.drew (Below.refl _ _) : Nb w6 w6.drew) n7)).cell 0⟩) ((go_at_call 11; refine (H3.out _ (by first | exact HDR.out _ m6 | exact HDR.out _ (Below.drew m6))).mono ?_; rintro e w7 ⟨⟨aB, cB, rfl, hfB⟩, n7⟩))
      have n67 : Nb w6 w7 := Nb.tr (Below.drew (Below.refl _ _) : Nb w6 w6.drew) n7
      have m7 := m6.tr n67
      have hownA := FA.out.1.keep (F := fun _ => False) (Kp.ofNb n67) (by simp)
      have hgA : w.heap.size ≤ gA := by have := FA.out.2 gA rfl; have := m5.size; omega
      have hbB := hfB.bs.1
      have hnB : aB = none → D.length = 0 ∧ cB = 0 := fun h => ⟨by subst h; rw [hbB.none_len]; rfl, hfB.bs.2 h⟩
      have hbX := (FX.out.bs.1.below n46).below n67
      have HBX := Lib.hid hbX
      have HBB := Lib.hid hbB
      have HNB := Lib.hid hnB
      have hsum : P.length + D.length ≤ 8000 := by omega
      clear hfB hbB hnB hbX hwr hz0 hz1 cl c0 c1 c2 c3 v0 v1 hB6 hW6
      go_wp2_with (at_builtin; refine wpList_want (by rfl) ?_; refine wpList_appB _ rfl (.tmp 115) (.tmp 116) rfl _ P rfl hownA _ _ D D.length rfl rfl HBB.out HNB.out (by omega) ?_)
      intro v8 w8 hown8 hk8 hf8
      obtain ⟨a8, c8, rfl, hb8, -⟩ := hown8.bs
      have m8 : Nb w w8 := m7.trans (hk8.toBelow m7.size (fun k h => by simp [Value.ownBlock] at h; omega))
      rw [← HX.out] at hb8 ⊢
      have hXk : Bs w8 aX cX X := by
        have h5 : w4.heap.size ≤ gA := FA.out.2 gA rfl
        have oX := FX.out.1.keep (F := fun _ => False) (Kp.ofNb (n46.tr n67)) (by simp)
        refine (oX.keep hk8 (fun g hg h => ?_)).asBs.1
        have := FX.out.1.lt hg
        simp [Value.ownBlock] at h
        omega
      clear hown8 hk8 hf8 hownA
      go_wp2_with fail
      refine (same_any a8 aX c8 cX X X _ hb8 hXk).mono ?_
      rintro e w9 ⟨rfl, n9⟩
      go_wp2
      go_ret
      exact ⟨rfl, m8.tr n9⟩

set_option maxHeartbeats 2000000 in
set_option maxRecDepth 100000 in
theorem lifted (os : Os) (started : os.Started) (H : Type) (enc : TypeId × Value → H) :
    ReturnsInHanded {} Try.checked os 8 .any (Rows.fixedPartsSpec.pre6 enc Try.prog Try.f8 Rows.fixedPartsRow.domain false) (Rows.fixedPartsSpec.post enc Try.prog Try.f8 false true false false) := by
  refine returnsInHanded_of_change (C := Try.checked) own started (by kernel_rfl) Try.func8
    (ChangeSpec.witness6 (enc := enc) (C := Try.checked) false ⟨#[], #[.agg #[.int .u8 0, .slice none 0 0, .int .i64 0, .bool false], .int .u8 0], []⟩ 8 (by kernel_rfl) (by kernel_rfl) (by kernel_rfl) (by kernel_rfl)) ?_
  intro W base args ds gs before hval0 hW hcnd _
  have hval : ∀ (j : Nat) t v, Try.f8.params[j]? = some t → args[j]? = some v → Value.okWide Try.prog W .any base t v := hval0
  have hW' := hW
  obtain ⟨p, q, hA0, hV, rfl, hfz, hnd⟩ := hW
  have hA : DataW.TrodAll enc Try.prog W 0 (fun _ => true) true Try.f8.params.toList args.toList ds p := hA0
  rw [Try.params8] at hA hval
  obtain ⟨v0, vs0, d0, ds0, p0, q0, hargs, rfl, rfl, h0, r0⟩ := trodAll_cons hA
  obtain ⟨v1, vs1, d1, ds1, p1, q1, rfl, rfl, rfl, h1, r1⟩ := trodAll_cons r0
  obtain ⟨rfl, rfl, rfl⟩ := trodAll_nil r1
  obtain rfl : args = #[v0, v1] := by cases args; simp_all
  obtain ⟨rfl, rfl⟩ := trodVars_none hV
  have k0 := h0
  have lt0 : ∀ x ∈ p0, x.block < W.heap.size := by obtain ⟨m, hm⟩ := k0; exact DataW.trod_lt m _ _ _ hm
  have k1 := h1
  have lt1 : ∀ x ∈ p1, x.block < W.heap.size := by obtain ⟨m, hm⟩ := k1; exact DataW.trod_lt m _ _ _ hm
  clear hA0
  obtain ⟨cs0, rfl, hz0⟩ := okWide_struct Try.underlying26 (hval 0 26 v0 rfl rfl)
  obtain ⟨c0_0, c0_1, c0_2, c0_3, rfl⟩ := arr4 (hz0.trans (by kernel_rfl))
  obtain ⟨fu0, hf0⟩ := h0
  have hc0 : DataW.trod enc Try.prog W 0 (fun _ => true) true fu0 26 [c0_0, c0_1, c0_2, c0_3] = some (d0, p0) := hf0
  obtain ⟨m0_0, y0_0, g0_0⟩ := open_fld Try.underlying26 hc0 0 _ rfl
  have t0_0 : DataW.trod enc Try.prog W 0 (fun _ => true) true m0_0 5 (([c0_0, c0_1, c0_2, c0_3].drop 0).take (Try.prog.cellsOf 5)) = some y0_0 := g0_0
  rw [show Try.prog.cellsOf 5 = 1 from by kernel_rfl] at t0_0
  have u0_0 : DataW.trod enc Try.prog W 0 (fun _ => true) true m0_0 5 [c0_0] = some y0_0 := t0_0
  obtain ⟨m0_1, y0_1, g0_1⟩ := open_fld Try.underlying26 hc0 1 _ rfl
  have t0_1 : DataW.trod enc Try.prog W 0 (fun _ => true) true m0_1 22 (([c0_0, c0_1, c0_2, c0_3].drop 1).take (Try.prog.cellsOf 22)) = some y0_1 := g0_1
  rw [show Try.prog.cellsOf 22 = 1 from by kernel_rfl] at t0_1
  have u0_1 : DataW.trod enc Try.prog W 0 (fun _ => true) true m0_1 22 [c0_1] = some y0_1 := t0_1
  obtain ⟨m0_2, y0_2, g0_2⟩ := open_fld Try.underlying26 hc0 2 _ rfl
  have t0_2 : DataW.trod enc Try.prog W 0 (fun _ => true) true m0_2 24 (([c0_0, c0_1, c0_2, c0_3].drop 2).take (Try.prog.cellsOf 24)) = some y0_2 := g0_2
  rw [show Try.prog.cellsOf 24 = 2 from by kernel_rfl] at t0_2
  have u0_2 : DataW.trod enc Try.prog W 0 (fun _ => true) true m0_2 24 [c0_2, c0_3] = some y0_2 := t0_2
  obtain ⟨m0_2_0, y0_2_0, g0_2_0⟩ := open_fld Try.underlying24 u0_2 0 _ rfl
  have t0_2_0 : DataW.trod enc Try.prog W 0 (fun _ => true) true m0_2_0 3 (([c0_2, c0_3].drop 0).take (Try.prog.cellsOf 3)) = some y0_2_0 := g0_2_0
  rw [show Try.prog.cellsOf 3 = 1 from by kernel_rfl] at t0_2_0
  have u0_2_0 : DataW.trod enc Try.prog W 0 (fun _ => true) true m0_2_0 3 [c0_2] = some y0_2_0 := t0_2_0
  obtain ⟨m0_2_1, y0_2_1, g0_2_1⟩ := open_fld Try.underlying24 u0_2 1 _ rfl
  have t0_2_1 : DataW.trod enc Try.prog W 0 (fun _ => true) true m0_2_1 4 (([c0_2, c0_3].drop 1).take (Try.prog.cellsOf 4)) = some y0_2_1 := g0_2_1
  rw [show Try.prog.cellsOf 4 = 1 from by kernel_rfl] at t0_2_1
  have u0_2_1 : DataW.trod enc Try.prog W 0 (fun _ => true) true m0_2_1 4 [c0_3] = some y0_2_1 := t0_2_1
  obtain ⟨a0_2_0, e0_2_0, x0_2_0, w0_2_0⟩ := DataW.trod_int Try.underlying3 u0_2_0
  obtain rfl : c0_2 = .int .i64 a0_2_0 := by simpa using e0_2_0
  obtain ⟨a0_2_1, e0_2_1, x0_2_1⟩ := DataW.trod_bool Try.underlying4 u0_2_1
  obtain rfl : c0_3 = .bool a0_2_1 := by simpa using e0_2_1
  obtain ⟨a0_0, e0_0, x0_0, w0_0⟩ := DataW.trod_int Try.underlying5 u0_0
  obtain rfl : c0_0 = .int .u8 a0_0 := by simpa using e0_0
  obtain ⟨a0_1, cap0_1, l0_1, e0_1, hb0_1, n0_1⟩ := bytes_open u0_1
  subst e0_1
  obtain ⟨a1, rfl, rfl, rfl, w1⟩ := open_int Try.underlying5 (hval 1 5 v1 rfl rfl) h1
  refine (walk W a0_0 w0_0 a0_1 cap0_1 l0_1 hb0_1 n0_1 a0_2_0 w0_2_0 a0_2_1 a1 w1).mono fun e W' ⟨he, bel⟩ => ?_
  subst he
  exact ⟨_, rfl, _, _, _, [], _, [], hW', trodAll_mk1 (shut_bool Try.underlying4 _), (trodAll_cons_mk (Below.trod laidOut (by kernel_rfl) (of_decide_eq_true (by kernel_rfl)) k0 bel lt0) (trodAll_cons_mk (Below.trod laidOut (by kernel_rfl) (of_decide_eq_true (by kernel_rfl)) k1 bel lt1) trodAll_mk0)), rfl, bel.frame _, fun h => by cases h⟩

theorem over : Rows.fixedPartsRow.holds Try.pinned (OpenSpec.ofChange Rows.fixedPartsSpec) :=
  OpenClaim.holds_of_wide 8 Try.f8 rfl rfl rfl rfl rfl rfl rfl ⟨rfl, rfl, rfl, rfl, rfl⟩ rfl rfl rfl rfl rfl (by kernel_rfl) Try.func8 (by kernel_rfl)
    (of_decide_eq_true (by kernel_rfl)) (by unfold Func.isWrapper; first | (rw [if_pos (by decide +kernel)]; kernel_rfl) | (rw [if_neg (by decide +kernel)]; exact ⟨rfl, rfl⟩))
    (fun os started H enc _ => lifted os started H enc)
theorem proved : Rows.FixedPartsSaid := over
#print axioms proved
end Go.Proofs.Ytjccmnmjbffikaa.fixedParts
