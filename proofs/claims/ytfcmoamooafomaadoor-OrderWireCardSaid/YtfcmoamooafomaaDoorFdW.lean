
/- Contracts of package fd's check and Wire. Condition: the tables of kinds and of longer sizes hold what the program's text lays there. -/
import Derived.Test.YtfcmoamooafomaaDoorFdC
import Derived.Test.YtfcmoamooafomaaDoorGa
import Derived.Test.YtfcmoamooafomaaDoorClaR
namespace Go.Proofs.YtfcmoamooafomaaDoor
set_option linter.unusedVariables false
set_option linter.unusedSimpArgs false
open Go.RowKit

set_option maxHeartbeats 4000000 in
set_option maxRecDepth 100000 in
theorem fcheck_ok (n : Nat) (a : Option Addr) (cap : Nat) (L : List Nat) (w : World) (h : Bs w a cap (putL L)) (hn : a = none → cap = 0) (hch : chk L = true) (h0 : 0 < L.length) (hL : L.length ≤ 2000) (hk : Kinds w) :
    Calls Tryd.prog 50 #[.slice a (putL L).length cap, .int .i64 (kindD n : Nat)] w fun e w' => AnsF w (fixD n (putL L) L) 0 e w' ∧ Nb w w' := by
  obtain ⟨_, _, g3, g4⟩ := sg_put hch (by omega)
  have hbit := chk_bit hch
  have hpb := putL_bit hbit
  have hp2 := (putL_len2 L).1
  have hp3 := (putL_len2 L).2
  have p1 := scount_u a cap (putL L) w h
  rw [g3, g4] at p1
  have hfx : fixD n (putL L) L = fxPut 4 true (lastB (putL L)) (tallyL ((putL L).length - L.length) ++ sumC (kindD n) (putL L ++ tallyL ((putL L).length - L.length))) := rfl
  have hla : lastB (putL L) ≤ 1 := lastB_le hpb
  have hlg := lastB_getD (putL L)
  rw [hfx]
  generalize hP : putL L = P at *
  obtain ⟨k, hkk⟩ : ∃ k, P.length - L.length = k := ⟨_, rfl⟩
  rw [hkk] at p1 ⊢
  have p2 := fun w' => tally_u (k : Int) w' (WalkArith.wf_i64 (by omega))
  rw [show tyL (k : Int) = tallyL k by rw [tyL, if_neg (by omega), Int.toNat_natCast], show tyE (k : Int) = 0 by rw [tyE, if_neg (by omega)]] at p2
  have hT4 := tallyL_len k
  have hTb := tallyL_bit k
  generalize hTT : tallyL k = T at *
  have hMb : ∀ x ∈ P ++ T, x ≤ 1 := fun x hx => by
    rcases List.mem_append.1 hx with hx | hx
    · exact hpb x hx
    · exact hTb x hx
  have hML : (P ++ T).length = P.length + 4 := by rw [List.length_append, hT4]
  have hMc : chk (P ++ T) = true := chk_of hMb (by omega)
  have hzn : szK (kindD n : Int) ≠ 0 := by rw [kindD_sz]; split <;> omega
  obtain ⟨q1, q2⟩ := sum_add (k := (kindD n : Int)) hzn hMc
  have p4 := fun w' (a' : Option Addr) (c' : Nat) (hn' : Nb w w') (hb : Bs w' a' c' (P ++ T)) (hnn : a' = none → c' = 0) => by
    have := add_u (kindD n : Int) a' c' (P ++ T) w' (hk.below hn') hb hnn
    rw [q1, q2] at this
    exact this
  have hSb := sumC_bit (kindD n : Int) (P ++ T)
  have hSl : (sumC (kindD n : Int) (P ++ T)).length = if 16 < n then 21 else 17 := by rw [sumC_len, kindD_sz]
  have hSl2 : (sumC (kindD n : Int) (P ++ T)).length ≤ 21 := by rw [hSl]; split <;> omega
  generalize sumC (kindD n : Int) (P ++ T) = S at *
  have hTS : (P ++ T ++ S).drop P.length = T ++ S := by rw [List.append_assoc, List.drop_left]
  have hTSb : ∀ x ∈ T ++ S, x ≤ 1 := fun x hx => by
    rcases List.mem_append.1 hx with hx | hx
    · exact hTb x hx
    · exact hSb x hx
  have hTSl : (T ++ S).length = 4 + S.length := by rw [List.length_append, hT4]
  have hTSc : chk (T ++ S) = true := chk_of hTSb (by omega)
  have hs2 := szF_le2 4 true (T ++ S).length
  have hdl : (P ++ T ++ S).length - P.length = (T ++ S).length := by simp only [List.length_append]; omega
  have p5 := fun w' (a' : Option Addr) (c' : Nat) (hb : Bs w' a' c' (T ++ S)) => by
    have := fxput_ok (lastB P) a' c' (T ++ S) 4 true w' hla hb (by omega) (by omega) hTSc (by omega)
    rw [← hdl] at this
    exact this
  generalize hZ : P ++ T ++ S = Z at *
  have hZl : P.length ≤ Z.length := by rw [← hZ]; simp only [List.length_append]; omega
  have hZ2 : Z.length ≤ 10000 := by rw [← hZ]; simp only [List.length_append]; omega
  generalize T ++ S = U at *
  generalize hM : P ++ T = M at *
  obtain ⟨kk, hkk2⟩ : ∃ kk, kindD n = kk := ⟨_, rfl⟩
  rw [hkk2] at p4 ⊢
  obtain ⟨la, hla2⟩ : ∃ la, lastB P = la := ⟨_, rfl⟩
  rw [hla2] at hlg hla p5 ⊢
  have hP1 : 0 < P.length := by omega
  obtain ⟨b, o, rfl, hcl⟩ := h.hcells hP1
  obtain ⟨z, hz⟩ : ∃ z, P.length - 1 = z := ⟨_, rfl⟩
  have hwr : IntKind.i64.wrap ((P.length : Int) - 1) = (z : Int) := by rw [IntWalk.i64_in _ (by omega)]; omega
  have hz0 : (0 : Int) ≤ (z : Int) := by omega
  have hz1 : (z : Int) < (P.length : Int) := by omega
  have hcz : ∀ w', Nb w w' → w'.cell? ⟨b, o + z, none⟩ = some (.int .u8 (la : Nat)) := fun w' hn' => by
    obtain ⟨b', o', e', hc'⟩ := (h.below hn').hcells hP1
    simp only [Option.some.injEq, Addr.mk.injEq, and_true] at e'
    obtain ⟨rfl, rfl⟩ := e'
    have := hc' (P.length - 1) (by omega)
    rw [← hlg, hz] at this
    exact this
  have P1 := Lib.hid p1
  have P2 := Lib.hid p2
  have P4 := Lib.hid p4
  have P5 := Lib.hid p5
  have H := Lib.hid h
  have HCZ := Lib.hid hcz
  have HM := Lib.hid hM
  have HT4 := Lib.hid hT4
  have HU := Lib.hid hTS
  have HZL := Lib.hid hZl
  have HPL := Lib.hid (show P.length ≤ 5000 by omega)
  clear p1 p2 p4 p5 h hcz hM hT4 hTS hZ hTT hP hkk g3 g4 hbit hpb hp2 hp3 hTb hMb hML hMc hzn q1 q2 hSb hSl hSl2 hTSb hTSl hTSc hs2 hdl hkk2 hla2 hlg hcl hz hfx hch hk hla
  go_enter Tryd.func50, Tryd.ntmps50
  go_wp2_with fail
  refine P1.out.mono ?_
  rintro e w1 ⟨rfl, n1⟩
  go_wp2_with fail
  refine (P2.out w1).mono ?_
  rintro e w2 ⟨⟨a2, c2, rfl, f2⟩, n2⟩
  have m2 := n1.tr n2
  have F2 := Lib.hid f2
  clear f2
  go_wp2_with fail
  refine (concat_any w2.heap.size 0 (some ⟨b, o, none⟩) a2 cap c2 P T _ (by simp) (by simp) ((H.out.below m2).below (Nb.rfl.al _)) (F2.out.bs.1.below (Nb.rfl.al _)) (by rw [HT4.out]; omega) (by simp) (by have := HPL.out; omega) (by rw [HT4.out]; omega)).mono ?_
  rintro e w3 ⟨⟨a3, c3, rfl, f3⟩, n3⟩
  rw [HM.out] at f3
  rw [HM.out]
  have m3 : Nb w w3 := (m2.al _).tr n3
  have F3 := Lib.hid f3.bs
  clear f3 n3 F2 n2 n1
  go_wp2_with fail
  refine (P4.out _ a3 c3 m3 F3.out.1 F3.out.2).mono ?_
  rintro e w4 ⟨⟨a4, c4, rfl, f4⟩, n4⟩
  have m4 := m3.tr n4
  have B4 := Lib.hid (f4.bs.1.cutL P.length HZL.out)
  have hcut := fun w => run_cutL a4 Z.length c4 P.length HZL.out w
  rw [HU.out] at B4
  clear f4
  obtain ⟨aU, haU⟩ : ∃ aU, cutA a4 c4 P.length = aU := ⟨_, rfl⟩
  rw [haU] at B4 hcut
  clear haU
  go_wp2_with fail
  have NB : RowKit.Hid (Nb w4 w4.drew) := Lib.hid (Nb.drewN w4 1)
  have hc0 : w4.drew.cell? ⟨b, o + z, none⟩ = some (.int .u8 la) := HCZ.out _ (m4.tr NB.out)
  go_region_held3 (fun w' => w'.cell? ⟨b, o + z, none⟩ = some (.int .u8 la)) (first | go_keep | exact HCZ.out _ (m4.tr NB.out))
    (first
      | (go_at_call 73
         refine (way7_any _).mono ?_
         rintro e w6 ⟨rfl, n6⟩
         have NB := Lib.hid (NB.out.tr n6)
         clear n6)
      | (go_at_call 55
         refine (P5.out _ _ _ (B4.out.below NB.out)).mono ?_
         rintro e w7 ⟨⟨a7, c7, rfl, f7⟩, n7⟩
         have s7 := NB.out.size
         have F7 := Lib.hid (show Fresh w4 w7 _ _ from f7.less s7)
         have NB := Lib.hid (NB.out.tr n7)
         clear f7 n7 s7))
  go_wp2
  go_ret2
  exact ⟨⟨_, _, rfl, F7.out.less m4.size⟩, m4.tr NB.out⟩
end Go.Proofs.YtfcmoamooafomaaDoor
