
/- The document's Find and In. No conditions. -/
import Derived.Test.YtaohmgklhecjbaaDoorFlD
namespace Go.Proofs.YtaohmgklhecjbaaDoor
set_option linter.unusedVariables false
set_option linter.unusedSimpArgs false
open Go.RowKit Go.Sort

set_option maxHeartbeats 1600000 in
set_option maxRecDepth 100000 in
theorem reffind15_any (f : Hd) (a : Option Addr) (cap : Nat) (d : List Nat) (bo : Option Addr) (bc : Nat) (L : List Rl) (el : Bool) (w : World) (hd : d.length ≤ 9223372036854775807) (hf : WdH f) (hR : Rls w bo bc L) :
    Calls Tryd.prog 12 #[.agg #[.slice bo L.length bc, .bool el], .agg (f.cs (.slice a d.length cap))] w fun e w' => e = .returned (.tuple #[.int .i64 (findN f d L : Nat), .int .i64 (findE f d L : Nat)]) ∧ Nb w w' := by
  have HB := Lib.hid (fun w' (n : Nb w w') => refcheck15_any L bo bc el w' (hR.below n))
  have HC := Lib.hid (fun w' => refcheck5_any f a cap d w' hd)
  have HF := Lib.hid (fun r (hr : r ∈ L) w' => reffits_any f a cap d r w' hd hf (hR.wd r hr))
  have HR := Lib.hid hR
  have hL := hR.len
  obtain ⟨v, hv⟩ : ∃ v, v = findN f d L := ⟨_, rfl⟩
  obtain ⟨er, her⟩ : ∃ er, er = findE f d L := ⟨_, rfl⟩
  rw [← hv, ← her]
  have HV := Lib.hid (show v = if banF f d L then (L.findIdx? (ofR f)).getD 0 else 0 from hv)
  have HE := Lib.hid (show er = if banF f d L then (if L.any (ofR f) then 0 else 9) else 2 from her)
  clear hv her hR hf
  cases hb : okB L with
  | false =>
    rw [show banF f d L = false by simp [banF, hb]] at HV HE
    rw [show bkE L = 2 by simp [bkE, hb]] at HB
    obtain ⟨K, I, X, R, B, E, S, D, V, A⟩ := f
    simp only [Hd.cs] at ⊢
    clear HC HF hb
    go_enter Tryd.func12, Tryd.ntmps12
    go_wp2_with fail
    refine (HB.out _ ((Nb.rfl.al _).al _)).mono ?_
    rintro e w1 ⟨rfl, n1⟩
    go_wp2
    go_ret2
    exact ⟨by rw [HV.out, HE.out]; rfl, ((Nb.rfl.al _).al _).tr n1⟩
  | true =>
    rw [show bkE L = 0 by simp [bkE, hb]] at HB
    cases hk : okF f d with
    | false =>
      rw [show banF f d L = false by simp [banF, hk]] at HV HE
      rw [show checkN f d = 2 by simp [checkN, hk]] at HC
      obtain ⟨K, I, X, R, B, E, S, D, V, A⟩ := f
      simp only [Hd.cs] at HC ⊢
      have BF := Lib.hid (Blk.new (w.alloc (.cells #[.slice bo L.length bc, .bool el] 24)) #[.int .i64 K, .int .u32 I, .bool X, .bool R, .bool B, .bool E, .bool S, .int .u8 D, .int .u8 V, .int .u32 A, .slice a d.length cap] 28)
      rw [World.size_alloc] at BF
      clear HF hb hk
      go_enter Tryd.func12, Tryd.ntmps12
      go_wp2_with fail
      refine (HB.out _ ((Nb.rfl.al _).al _)).mono ?_
      rintro e w1 ⟨rfl, n1⟩
      have N1 := Lib.hid (((Nb.rfl.al _).al _).tr n1 : Nb w w1)
      obtain ⟨c0, c1, c2, c3, c4, c5, c6, c7, c8, c9, c10⟩ := (BF.out.nb n1).c11
      clear n1
      go_wp2_with fail
      refine (HC.out _).mono ?_
      rintro e w2 ⟨rfl, n2⟩
      go_wp2
      go_ret2
      exact ⟨by rw [HV.out, HE.out]; rfl, N1.out.tr n2⟩
    | true =>
      rw [show banF f d L = true by simp [banF, hb, hk]] at HV HE
      rw [show checkN f d = 0 by simp [checkN, hk]] at HC
      have HK := Lib.hid hk
      have HOK := Lib.hid hb
      have hfit : ∀ r ∈ L, fitR f d r = ofR f r := fun r hr => by
        unfold fitR
        rw [hk, ((okB_iff L).1 hb).2 r hr]
        rfl
      have HFit := Lib.hid hfit
      have HQ : RowKit.Hid (∀ k, k < L.length → ∀ w', Calls Tryd.prog 16 #[.agg (L.getD k dRl).ca, .agg (f.cs (.slice a d.length cap))] w' fun e w2 => e = .returned (.bool (ofR f (L.getD k dRl))) ∧ Nb w' w2) := Lib.hid (fun k hk' w' => by
        have := HF.out (L.getD k dRl) (Rl.mem hk') w'
        rwa [HFit.out _ (Rl.mem hk')] at this)
      obtain ⟨p, hp⟩ : ∃ p, p = ofR f := ⟨_, rfl⟩
      rw [← hp] at HQ HV HE
      obtain ⟨K, I, X, R, B, E, S, D, V, A⟩ := f
      simp only [Hd.cs] at HC HQ ⊢
      obtain ⟨z1, hz1⟩ : ∃ z1, z1 = (w.alloc (.cells #[.slice bo L.length bc, .bool el] 24)).alloc (.cells #[.int .i64 K, .int .u32 I, .bool X, .bool R, .bool B, .bool E, .bool S, .int .u8 D, .int .u8 V, .int .u32 A, .slice a d.length cap] 28) := ⟨_, rfl⟩
      obtain ⟨B0, hB0⟩ : ∃ B0, B0 = w.heap.size := ⟨_, rfl⟩
      have NZ := Lib.hid (show Nb w z1 by rw [hz1]; exact (Nb.rfl.al _).al _)
      have BB := Lib.hid (show Blk z1 B0 #[.slice bo L.length bc, .bool el] 24 by rw [hz1, hB0]; exact (Blk.new w _ _).nb (Nb.rfl.al _))
      have BF := Lib.hid (show Blk z1 (B0 + 1) #[.int .i64 K, .int .u32 I, .bool X, .bool R, .bool B, .bool E, .bool S, .int .u8 D, .int .u8 V, .int .u32 A, .slice a d.length cap] 28 by
        rw [hz1, hB0]
        have := Blk.new (w.alloc (.cells #[.slice bo L.length bc, .bool el] 24)) #[.int .i64 K, .int .u32 I, .bool X, .bool R, .bool B, .bool E, .bool S, .int .u8 D, .int .u8 V, .int .u32 A, .slice a d.length cap] 28
        rwa [World.size_alloc] at this)
      clear HF hb hk hfit hp HK HOK HFit
      go_enter Tryd.func12, Tryd.ntmps12
      go_wp2_with fail
      rw [← hz1, ← hB0]
      clear hz1 hB0
      refine (HB.out _ NZ.out).mono ?_
      rintro e w1 ⟨rfl, n1⟩
      have N1 := Lib.hid (NZ.out.tr n1)
      have BF1 := Lib.hid (BF.out.nb n1)
      have BB1 := Lib.hid (BB.out.nb n1)
      obtain ⟨c0, c1, c2, c3, c4, c5, c6, c7, c8, c9, c10⟩ := BF1.out.c11
      clear n1
      go_wp2_with fail
      refine (HC.out _).mono ?_
      rintro e w2 ⟨rfl, n2⟩
      have N2 := Lib.hid (N1.out.tr n2)
      have BF2 := Lib.hid (BF1.out.nb n2)
      clear c0 c1 c2 c3 c4 c5 c6 c7 c8 c9 c10
      obtain ⟨e0, e1⟩ := (BB1.out.nb n2).r2
      clear n2
      go_wp2
      go_loopw [19] (fun ix wr => ∃ k : Nat, k ≤ L.length ∧ ix = .int .i64 k ∧ (∀ j, j < k → p (L.getD j dRl) = false) ∧ Nb w2 wr) (fun ix _ => L.length - (intOf ix).toNat)
      case atStart => exact ⟨0, Nat.zero_le _, rfl, fun j hj => by omega, Nb.rfl⟩
      case round =>
        obtain ⟨k, hk, rfl, h0, hn⟩ := hrel
        have H0 := Lib.hid h0
        have NI := Lib.hid hn
        have NB := Lib.hid (N2.out.tr hn)
        obtain ⟨c0, c1, c2, c3, c4, c5, c6, c7, c8, c9, c10⟩ := (BF2.out.nb hn).c11
        have hB1 : B0 + 1 < wr.heap.size := (BF2.out.nb hn).lt
        clear h0 hn e0 e1
        by_cases hlt : k < L.length
        · have hR := HR.out.below NB.out
          obtain ⟨b, o, rfl⟩ := hR.addr (by omega)
          have HM := Lib.hid (HQ.out k hlt)
          obtain ⟨r, hr⟩ : ∃ r, L.getD k dRl = r := ⟨_, rfl⟩
          obtain ⟨d0, d1, d2, d3, d4, d5, d6, d7, d8, d9⟩ := hR.at hlt hr
          rw [hr] at HM
          have hi : (k : Int) < (L.length : Int) := by omega
          have HRr := Lib.hid hr
          clear hR hr
          cases hm : p r with
          | true =>
            rw [hm] at HM
            obtain ⟨ha, hx⟩ := first_is' p L k hlt H0.out (by rw [HRr.out]; exact hm)
            have HX := Lib.hid (show v = k ∧ er = 0 by rw [HV.out, HE.out, hx, ha]; exact ⟨rfl, rfl⟩)
            obtain ⟨rK, rI, rIM, rS, rSM, rV, rVM, rA, rAM, rN⟩ := r
            simp only [Rl.ca] at HM d0 d1 d2 d3 d4 d5 d6 d7 d8 d9
            clear hm HRr hx ha
            go_wp2_with fail
            refine (HM.out _).mono ?_
            rintro e w3 ⟨rfl, n3⟩
            go_wp2
            go_ret2
            exact ⟨by rw [HX.out.1, HX.out.2]; rfl, (NB.out.al _).tr n3⟩
          | false =>
            rw [hm] at HM
            have HT := Lib.hid (show p (L.getD k dRl) = false by rw [HRr.out]; exact hm)
            obtain ⟨rK, rI, rIM, rS, rSM, rV, rVM, rA, rAM, rN⟩ := r
            simp only [Rl.ca] at HM d0 d1 d2 d3 d4 d5 d6 d7 d8 d9
            clear hm HRr
            go_wp2_with fail
            refine (HM.out _).mono ?_
            rintro e w3 ⟨rfl, n3⟩
            have N3 := Lib.hid ((NI.out.al _).tr n3)
            clear n3
            go_wp2
            go_roundw
            case rel => exact ⟨k + 1, by omega, by go_num, fun j hj => by
              by_cases hjk : j = k
              · subst hjk; exact HT.out
              · exact H0.out j (by omega), N3.out⟩
            case measure => simp [intOf]; omega
        · obtain rfl : k = L.length := by omega
          obtain ⟨ha, hx⟩ := none_is p L H0.out
          have HX := Lib.hid (show v = 0 ∧ er = 9 by rw [HV.out, HE.out, hx, ha]; exact ⟨rfl, rfl⟩)
          clear hx ha
          go_wp2
          go_ret2
          exact ⟨by rw [HX.out.1, HX.out.2]; rfl, NB.out⟩

set_option maxHeartbeats 1600000 in
set_option maxRecDepth 100000 in
theorem refin15_any (f : Hd) (a : Option Addr) (cap : Nat) (d : List Nat) (bo : Option Addr) (bc : Nat) (L : List Rl) (el : Bool) (w : World) (hd : d.length ≤ 9223372036854775807) (hf : WdH f) (hR : Rls w bo bc L) :
    Calls Tryd.prog 14 #[.agg #[.slice bo L.length bc, .bool el], .agg (f.cs (.slice a d.length cap))] w fun e w' => e = .returned (.tuple #[.bool (inV f d L el), .int .i64 (inE f d L : Nat)]) ∧ Nb w w' := by
  have HF := Lib.hid (fun w' (n : Nb w w') => reffind15_any f a cap d bo bc L el w' hd hf (hR.below n))
  have hL := hR.len
  have HR := Lib.hid hR
  obtain ⟨v, hv⟩ : ∃ v, v = inV f d L el := ⟨_, rfl⟩
  obtain ⟨er, her⟩ : ∃ er, er = inE f d L := ⟨_, rfl⟩
  rw [← hv, ← her]
  have HV := Lib.hid (show v = if banF f d L then (match L.find? (ofR f) with | some r => r.N | none => el) else false from hv)
  have HE := Lib.hid (show er = if banF f d L then 0 else 2 from her)
  clear hv her hR hf
  have hc : (findE f d L = 2 ∧ v = false ∧ er = 2) ∨ (findE f d L = 9 ∧ v = el ∧ er = 0) ∨ (findE f d L = 0 ∧ findN f d L < L.length ∧ v = (L.getD (findN f d L) dRl).N ∧ er = 0) := by
    cases hb : banF f d L with
    | false =>
      rw [hb] at HV HE
      exact .inl ⟨by simp [findE, hb], HV.out, HE.out⟩
    | true =>
      rw [hb] at HV HE
      refine .inr ?_
      cases ha : L.any (ofR f) with
      | false =>
        obtain ⟨h1, h2, _⟩ := none_at _ L ha
        refine .inl ⟨by simp [findE, hb, ha], ?_, HE.out⟩
        rw [HV.out, h2]
        rfl
      | true =>
        obtain ⟨i, h1, h2, h3, _⟩ := first_at _ L ha
        have e : findN f d L = i := by simp [findN, hb, h1]
        refine .inr ⟨by simp [findE, hb, ha], by rw [e]; exact h2, ?_, HE.out⟩
        rw [HV.out, h3, e]
        rfl
  generalize findE f d L = fe at *
  generalize findN f d L = fn at *
  clear HV HE
  obtain ⟨K, I, X, R, B, E, S, D, V, A⟩ := f
  simp only [Hd.cs] at HF ⊢
  have BB := Lib.hid ((Blk.new w #[.slice bo L.length bc, .bool el] 24).nb (Nb.rfl.al (.cells #[.int .i64 K, .int .u32 I, .bool X, .bool R, .bool B, .bool E, .bool S, .int .u8 D, .int .u8 V, .int .u32 A, .slice a d.length cap] 28)))
  rcases hc with ⟨rfl, rfl, rfl⟩ | ⟨rfl, rfl, rfl⟩ | ⟨rfl, h1, h2, rfl⟩
  · go_enter Tryd.func14, Tryd.ntmps14
    go_wp2_with fail
    refine (HF.out _ ((Nb.rfl.al _).al _)).mono ?_
    rintro e w1 ⟨rfl, n1⟩
    go_wp2
    go_ret2
    exact ⟨rfl, ((Nb.rfl.al _).al _).tr n1⟩
  · go_enter Tryd.func14, Tryd.ntmps14
    go_wp2_with fail
    refine (HF.out _ ((Nb.rfl.al _).al _)).mono ?_
    rintro e w1 ⟨rfl, n1⟩
    obtain ⟨e0, e1⟩ := (BB.out.nb n1).r2
    go_wp2
    go_ret2
    exact ⟨rfl, ((Nb.rfl.al _).al _).tr n1⟩
  · obtain ⟨r, hr⟩ : ∃ r, L.getD fn dRl = r := ⟨_, rfl⟩
    rw [h2, hr]
    clear h2
    obtain ⟨b, o, rfl⟩ := HR.out.addr (by omega)
    go_enter Tryd.func14, Tryd.ntmps14
    go_wp2_with fail
    refine (HF.out _ ((Nb.rfl.al _).al _)).mono ?_
    rintro e w1 ⟨rfl, n1⟩
    have N1 := Lib.hid (((Nb.rfl.al _).al _).tr n1 : Nb w w1)
    obtain ⟨e0, e1⟩ := (BB.out.nb n1).r2
    obtain ⟨c0, c1, c2, c3, c4, c5, c6, c7, c8, c9⟩ := (HR.out.below N1.out).at h1 hr
    have hi : (fn : Int) < (L.length : Int) := by omega
    clear n1 hr
    go_wp2
    go_ret2
    exact ⟨rfl, N1.out⟩
end Go.Proofs.YtaohmgklhecjbaaDoor
