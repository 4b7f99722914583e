
/- The program's banks: Fits, Check, the first one that a function says yes of, Find, In. Condition: the table of longer sizes holds what the program's text lays there. -/
import Derived.Test.YtaohmgklhecjbaaDoorFlA
namespace Go.Proofs.YtaohmgklhecjbaaDoor
set_option linter.unusedVariables false
set_option linter.unusedSimpArgs false
open Go.RowKit Go.Sort

set_option maxHeartbeats 1600000 in
set_option maxRecDepth 100000 in
theorem fits_any (f : Hd) (a : Option Addr) (cap : Nat) (d : List Nat) (r : Rl) (w : World) (h : Bs w a cap d) (hl : Longer w) :
    Calls Tryd.prog 15 #[.agg r.ca, .agg (f.cs (.slice a d.length cap))] w fun e w' => e = .returned (.bool (fitR f d r)) ∧ Nb w w' := by
  have HM := Lib.hid (fun w => mayBe_any r w)
  have HC := Lib.hid (fun w' (n : Nb w w') => check5_any f a cap d w' (h.below n) (hl.below n))
  have HF := Lib.hid (fun (hk : okF f d = true) w => fits15_any f a d.length cap r w (okF_kind hk))
  have hd := h.len
  obtain ⟨v, hv⟩ : ∃ v, v = fitR f d r := ⟨_, rfl⟩
  rw [← hv]
  have HV := Lib.hid (show v = (mayR r && (okF f d && ofR f r)) from hv)
  clear hv h hl
  cases hm : mayR r with
  | false =>
    rw [hm] at HM HV
    obtain ⟨K, I, X, R, B, E, S, D, V, A⟩ := f
    obtain ⟨rK, rI, rIM, rS, rSM, rV, rVM, rA, rAM, rN⟩ := r
    simp only [Hd.cs, Rl.ca] at HM ⊢
    clear HC HF hm
    go_enter Tryd.func15, Tryd.ntmps15
    go_wp2_with fail
    refine (HM.out _).mono ?_
    rintro e w1 ⟨rfl, n1⟩
    go_wp2
    go_ret
    exact ⟨by rw [HV.out]; simp, ((Nb.rfl.al _).al _).tr n1⟩
  | true =>
    rw [hm] at HM HV
    cases hk : okF f d with
    | false =>
      rw [show checkN f d = 2 by simp [checkN, hk]] at HC
      rw [hk] at HV
      obtain ⟨K, I, X, R, B, E, S, D, V, A⟩ := f
      obtain ⟨rK, rI, rIM, rS, rSM, rV, rVM, rA, rAM, rN⟩ := r
      simp only [Hd.cs, Rl.ca] at HM HC ⊢
      have BF := Lib.hid (Blk.new (w.alloc (.cells #[.int .i64 rK, .int .u32 rI, .int .u32 rIM, .int .u8 rS, .int .u8 rSM, .int .u8 rV, .int .u8 rVM, .int .u32 rA, .int .u32 rAM, .bool rN] 44)) #[.int .i64 K, .int .u32 I, .bool X, .bool R, .bool B, .bool E, .bool S, .int .u8 D, .int .u8 V, .int .u32 A, .slice a d.length cap] 28)
      rw [World.size_alloc] at BF
      clear HF hm hk
      go_enter Tryd.func15, Tryd.ntmps15
      go_wp2_with fail
      refine (HM.out _).mono ?_
      rintro e w1 ⟨rfl, n1⟩
      have N1 := Lib.hid (((Nb.rfl.al _).al _).tr n1 : Nb w w1)
      obtain ⟨c0, c1, c2, c3, c4, c5, c6, c7, c8, c9, c10⟩ := (BF.out.nb n1).c11
      clear n1
      go_wp2_with fail
      refine (HC.out _ N1.out).mono ?_
      rintro e w2 ⟨rfl, n2⟩
      go_wp2
      go_ret
      exact ⟨by rw [HV.out]; simp, N1.out.tr n2⟩
    | true =>
      have HF2 := Lib.hid (HF.out hk)
      rw [show checkN f d = 0 by simp [checkN, hk]] at HC
      rw [hk] at HV
      generalize ofR f r = b0 at *
      obtain ⟨K, I, X, R, B, E, S, D, V, A⟩ := f
      obtain ⟨rK, rI, rIM, rS, rSM, rV, rVM, rA, rAM, rN⟩ := r
      simp only [Hd.cs, Rl.ca] at HM HC HF2 ⊢
      have BR := Lib.hid ((Blk.new w #[.int .i64 rK, .int .u32 rI, .int .u32 rIM, .int .u8 rS, .int .u8 rSM, .int .u8 rV, .int .u8 rVM, .int .u32 rA, .int .u32 rAM, .bool rN] 44).nb (Nb.rfl.al (.cells #[.int .i64 K, .int .u32 I, .bool X, .bool R, .bool B, .bool E, .bool S, .int .u8 D, .int .u8 V, .int .u32 A, .slice a d.length cap] 28)))
      have BF := Lib.hid (Blk.new (w.alloc (.cells #[.int .i64 rK, .int .u32 rI, .int .u32 rIM, .int .u8 rS, .int .u8 rSM, .int .u8 rV, .int .u8 rVM, .int .u32 rA, .int .u32 rAM, .bool rN] 44)) #[.int .i64 K, .int .u32 I, .bool X, .bool R, .bool B, .bool E, .bool S, .int .u8 D, .int .u8 V, .int .u32 A, .slice a d.length cap] 28)
      rw [World.size_alloc] at BF
      clear HF hm hk
      go_enter Tryd.func15, Tryd.ntmps15
      go_wp2_with fail
      refine (HM.out _).mono ?_
      rintro e w1 ⟨rfl, n1⟩
      have N1 := Lib.hid (((Nb.rfl.al _).al _).tr n1 : Nb w w1)
      have BF1 := Lib.hid (BF.out.nb n1)
      have BR1 := Lib.hid (BR.out.nb n1)
      obtain ⟨c0, c1, c2, c3, c4, c5, c6, c7, c8, c9, c10⟩ := BF1.out.c11
      clear n1
      go_wp2_with fail
      refine (HC.out _ N1.out).mono ?_
      rintro e w2 ⟨rfl, n2⟩
      have N2 := Lib.hid (N1.out.tr n2)
      clear c0 c1 c2 c3 c4 c5 c6 c7 c8 c9 c10
      obtain ⟨c0, c1, c2, c3, c4, c5, c6, c7, c8, c9, c10⟩ := (BF1.out.nb n2).c11
      obtain ⟨e0, e1, e2, e3, e4, e5, e6, e7, e8, e9⟩ := (BR1.out.nb n2).r10
      clear n2
      go_wp2_with fail
      refine (HF2.out _).mono ?_
      rintro e w3 ⟨rfl, n3⟩
      go_wp2
      go_ret
      exact ⟨by rw [HV.out]; simp, N2.out.tr n3⟩

set_option maxHeartbeats 1600000 in
set_option maxRecDepth 100000 in
theorem check15_any (L : List Rl) (a : Option Addr) (cap : Nat) (el : Bool) (w : World) (h : Rls w a cap L) :
    Calls Tryd.prog 17 #[.agg #[.slice a L.length cap, .bool el]] w fun e w' => e = .returned (.int .i64 (bkE L : Nat)) ∧ Nb w w' := by
  have hL := h.len
  obtain ⟨v, hv⟩ : ∃ v, v = bkE L := ⟨_, rfl⟩
  rw [← hv]
  have HV := Lib.hid (show v = if okB L then 0 else 2 from hv)
  have HR := Lib.hid h
  clear hv h
  by_cases h32 : 32 < L.length
  · have d1 : decide ((32 : Int) < (L.length : Int)) = true := decide_eq_true (by omega)
    have hno : okB L = false := by
      cases hq : okB L with
      | false => rfl
      | true =>
        have := ((okB_iff L).1 hq).1
        omega
    rw [hno] at HV
    clear h32 hno
    go_enter Tryd.func17, Tryd.ntmps17
    go_wp2
    go_ret
    exact ⟨by rw [HV.out]; rfl, Nb.rfl.al _⟩
  · have d1 : decide ((32 : Int) < (L.length : Int)) = false := decide_eq_false (by omega)
    have H32 := Lib.hid h32
    obtain ⟨z1, hz1⟩ : ∃ z1, z1 = w.alloc (.cells #[.slice a L.length cap, .bool el] 32) := ⟨_, rfl⟩
    have NZ := Lib.hid (show Nb w z1 by rw [hz1]; exact Nb.rfl.al _)
    clear h32
    go_enter Tryd.func17, Tryd.ntmps17
    go_wp2
    rw [← hz1]
    clear hz1
    go_loopw [12] (fun ix wr => ∃ k : Nat, k ≤ L.length ∧ ix = .int .i64 k ∧ (∀ j, j < k → mayR (L.getD j dRl) = true) ∧ Nb z1 wr) (fun ix _ => L.length - (intOf ix).toNat)
    case atStart => exact ⟨0, Nat.zero_le _, rfl, fun j hj => by omega, Nb.rfl⟩
    case round =>
      obtain ⟨k, hk, rfl, h0, hn⟩ := hrel
      have H0 := Lib.hid h0
      have NB := Lib.hid (NZ.out.tr hn)
      have NB1 := Lib.hid hn
      clear h0 hn
      by_cases hlt : k < L.length
      · have hR := HR.out.below NB.out
        obtain ⟨b, o, rfl⟩ := hR.addr (by omega)
        obtain ⟨r, hr⟩ : ∃ r, L.getD k dRl = r := ⟨_, rfl⟩
        obtain ⟨c0, c1, c2, c3, c4, c5, c6, c7, c8, c9⟩ := hR.at hlt hr
        have HM := Lib.hid (fun w => mayBe_any r w)
        have hi : (k : Int) < (L.length : Int) := by omega
        have HRr := Lib.hid hr
        clear hR hr
        cases hm : mayR r with
        | false =>
          rw [hm] at HM
          have hno : okB L = false := by
            cases hq : okB L with
            | false => rfl
            | true =>
              have := ((okB_iff L).1 hq).2 r (by rw [← HRr.out]; exact Rl.mem hlt)
              rw [hm] at this
              cases this
          rw [hno] at HV
          obtain ⟨rK, rI, rIM, rS, rSM, rV, rVM, rA, rAM, rN⟩ := r
          simp only [Rl.ca] at HM c0 c1 c2 c3 c4 c5 c6 c7 c8 c9
          clear hm hno HRr
          go_wp2_with fail
          refine (HM.out _).mono ?_
          rintro e w1 ⟨rfl, n1⟩
          go_wp2
          go_ret
          exact ⟨by rw [HV.out]; rfl, (NB.out.al _).tr n1⟩
        | true =>
          rw [hm] at HM
          have HT := Lib.hid (show mayR (L.getD k dRl) = true by rw [HRr.out]; exact hm)
          obtain ⟨rK, rI, rIM, rS, rSM, rV, rVM, rA, rAM, rN⟩ := r
          simp only [Rl.ca] at HM c0 c1 c2 c3 c4 c5 c6 c7 c8 c9
          clear hm HRr
          go_wp2_with fail
          refine (HM.out _).mono ?_
          rintro e w1 ⟨rfl, n1⟩
          have N1 := Lib.hid ((NB1.out.al _).tr n1)
          clear n1
          go_wp2
          go_roundw
          case rel => exact ⟨k + 1, by omega, by go_num, fun j hj => by
            by_cases hjk : j = k
            · subst hjk; exact HT.out
            · exact H0.out j (by omega), N1.out⟩
          case measure => simp [intOf]; omega
      · obtain rfl : k = L.length := by omega
        have hyes : okB L = true := (okB_iff L).2 ⟨by have := H32.out; omega, fun r hr => by
          obtain ⟨i, hi, rfl⟩ := List.getElem_of_mem hr
          have := H0.out i hi
          rwa [show L.getD i dRl = L[i] by simp [List.getD, hi]] at this⟩
        rw [hyes] at HV
        clear hyes
        go_wp2
        go_ret
        exact ⟨by rw [HV.out]; rfl, NB.out⟩

set_option maxHeartbeats 1600000 in
set_option maxRecDepth 100000 in
/-- slices.IndexFunc: the first one that a function says yes of. -/
theorem indexF_any (F : Nat) (X : Value) (p : Rl → Bool) (L : List Rl) (a : Option Addr) (cap : Nat) (w : World) (h : Rls w a cap L)
    (hcf : ∀ args w, (callFunc F args).run Tryd.prog w = .ok (.enter F args) w)
    (hp : ∀ r ∈ L, ∀ w', Nb w w' → Calls Tryd.prog F #[X, .agg r.ca] w' fun e w'' => e = .returned (.bool (p r)) ∧ Nb w' w'') :
    Calls Tryd.prog 24 #[.slice a L.length cap, .func (.func F) #[X] #[]] w fun e w' => e = .returned (.int .i64 (idxV p L)) ∧ Nb w w' := by
  have hL := h.len
  obtain ⟨v, hv⟩ : ∃ v, v = idxV p L := ⟨_, rfl⟩
  rw [← hv]
  have HV := Lib.hid hv
  have HR := Lib.hid h
  have HP := Lib.hid hp
  clear hv h hp
  go_enter Tryd.func24, Tryd.ntmps24
  go_wp2
  go_loopw [8] (fun ix wr => ∃ k : Nat, k ≤ L.length ∧ ix = .int .i64 k ∧ (∀ j, j < k → p (L.getD j dRl) = false) ∧ Nb w wr) (fun ix _ => L.length - (intOf ix).toNat)
  case atStart => exact ⟨0, Nat.zero_le _, rfl, fun j hj => by omega, Nb.rfl⟩
  case round =>
    obtain ⟨k, hk, rfl, h0, hn⟩ := hrel
    have H0 := Lib.hid h0
    have NB := Lib.hid hn
    clear h0 hn
    by_cases hlt : k < L.length
    · have hR := HR.out.below NB.out
      obtain ⟨b, o, rfl⟩ := hR.addr (by omega)
      obtain ⟨r, hr⟩ : ∃ r, L.getD k dRl = r := ⟨_, rfl⟩
      obtain ⟨c0, c1, c2, c3, c4, c5, c6, c7, c8, c9⟩ := hR.at hlt hr
      have HM := Lib.hid (HP.out r (by rw [← hr]; exact Rl.mem hlt) wr NB.out)
      have hi : (k : Int) < (L.length : Int) := by omega
      have HRr := Lib.hid hr
      clear hR hr
      cases hm : p r with
      | true =>
        rw [hm] at HM
        have hx := (first_is' p L k hlt H0.out (by rw [HRr.out]; exact hm)).2
        have HX := Lib.hid (show v = (k : Int) by rw [HV.out]; simp [idxV, hx])
        obtain ⟨rK, rI, rIM, rS, rSM, rV, rVM, rA, rAM, rN⟩ := r
        simp only [Rl.ca] at HM c0 c1 c2 c3 c4 c5 c6 c7 c8 c9
        clear hm HRr hx
        go_wp2_with fail
        refine HM.out.mono ?_
        rintro e w1 ⟨rfl, n1⟩
        go_wp2
        go_ret
        exact ⟨by rw [HX.out]; rfl, NB.out.tr n1⟩
      | false =>
        rw [hm] at HM
        have HT := Lib.hid (show p (L.getD k dRl) = false by rw [HRr.out]; exact hm)
        obtain ⟨rK, rI, rIM, rS, rSM, rV, rVM, rA, rAM, rN⟩ := r
        simp only [Rl.ca] at HM c0 c1 c2 c3 c4 c5 c6 c7 c8 c9
        clear hm HRr
        go_wp2_with fail
        refine HM.out.mono ?_
        rintro e w1 ⟨rfl, n1⟩
        have N1 := Lib.hid (NB.out.tr n1)
        clear n1
        go_wp2
        go_roundw
        case rel => exact ⟨k + 1, by omega, by go_num, fun j hj => by
          by_cases hjk : j = k
          · subst hjk; exact HT.out
          · exact H0.out j (by omega), N1.out⟩
        case measure => simp [intOf]; omega
    · obtain rfl : k = L.length := by omega
      have hx := (none_is p L H0.out).2
      have HX := Lib.hid (show v = -1 by rw [HV.out]; simp [idxV, hx])
      clear hx
      go_wp2
      go_ret
      exact ⟨by rw [HX.out]; rfl, NB.out⟩

set_option maxHeartbeats 800000 in
theorem containsF_any (F : Nat) (X : Value) (p : Rl → Bool) (L : List Rl) (a : Option Addr) (cap : Nat) (w : World) (h : Rls w a cap L)
    (hcf : ∀ args w, (callFunc F args).run Tryd.prog w = .ok (.enter F args) w)
    (hp : ∀ r ∈ L, ∀ w', Nb w w' → Calls Tryd.prog F #[X, .agg r.ca] w' fun e w'' => e = .returned (.bool (p r)) ∧ Nb w' w'') :
    Calls Tryd.prog 28 #[.slice a L.length cap, .func (.func F) #[X] #[]] w fun e w' => e = .returned (.bool (L.any p)) ∧ Nb w w' := by
  have HI := Lib.hid (indexF_any F X p L a cap w h hcf hp)
  have hv := idxV_pos p L
  generalize idxV p L = iv at *
  rw [← hv]
  clear hv h hp
  go_enter Tryd.func28, Tryd.ntmps28
  go_wp2_with fail
  refine HI.out.mono ?_
  rintro e w1 ⟨rfl, n1⟩
  go_wp2
  go_ret
  exact ⟨rfl, n1⟩
end Go.Proofs.YtaohmgklhecjbaaDoor
