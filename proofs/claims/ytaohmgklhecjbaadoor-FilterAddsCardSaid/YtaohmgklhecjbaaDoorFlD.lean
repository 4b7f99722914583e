
/- The document's rules and banks: Check, Fits. No conditions. -/
import Derived.Test.YtaohmgklhecjbaaDoorFlC
import Derived.Test.YtaohmgklhecjbaaDoorGj
namespace Go.Proofs.YtaohmgklhecjbaaDoor
set_option linter.unusedVariables false
set_option linter.unusedSimpArgs false
open Go.RowKit Go.Sort

set_option maxHeartbeats 1600000 in
set_option maxRecDepth 100000 in
theorem refcheck15_any (L : List Rl) (a : Option Addr) (cap : Nat) (el : Bool) (w : World) (h : Rls w a cap L) :
    Calls Tryd.prog 18 #[.agg #[.slice a L.length cap, .bool el]] w fun e w' => e = .returned (.int .i64 (bkE L : Nat)) ∧ Nb w w' := by
  have hL := h.len
  obtain ⟨v, hv⟩ : ∃ v, v = bkE L := ⟨_, rfl⟩
  rw [← hv]
  have HV := Lib.hid (show v = if okB L then 0 else 2 from hv)
  have HR := Lib.hid h
  clear hv h
  by_cases h32 : 32 < L.length
  · have d1 : decide ((32 : Int) < (L.length : Int)) = true := decide_eq_true (by omega)
    have hno : okB L = false := by
      cases hq : okB L with
      | false => rfl
      | true =>
        have := ((okB_iff L).1 hq).1
        omega
    rw [hno] at HV
    clear h32 hno
    go_enter Tryd.func18, Tryd.ntmps18
    go_wp2
    go_ret
    exact ⟨by rw [HV.out]; rfl, Nb.rfl.al _⟩
  · have d1 : decide ((32 : Int) < (L.length : Int)) = false := decide_eq_false (by omega)
    have H32 := Lib.hid h32
    obtain ⟨z1, hz1⟩ : ∃ z1, z1 = w.alloc (.cells #[.slice a L.length cap, .bool el] 24) := ⟨_, rfl⟩
    have NZ := Lib.hid (show Nb w z1 by rw [hz1]; exact Nb.rfl.al _)
    clear h32
    go_enter Tryd.func18, Tryd.ntmps18
    go_wp2
    rw [← hz1]
    clear hz1
    go_loopw [12] (fun ix wr => ∃ k : Nat, k ≤ L.length ∧ ix = .int .i64 k ∧ (∀ j, j < k → mayR (L.getD j dRl) = true) ∧ Nb z1 wr) (fun ix _ => L.length - (intOf ix).toNat)
    case atStart => exact ⟨0, Nat.zero_le _, rfl, fun j hj => by omega, Nb.rfl⟩
    case round =>
      obtain ⟨k, hk, rfl, h0, hn⟩ := hrel
      have H0 := Lib.hid h0
      have NB := Lib.hid (NZ.out.tr hn)
      have NB1 := Lib.hid hn
      clear h0 hn
      by_cases hlt : k < L.length
      · have hR := HR.out.below NB.out
        obtain ⟨b, o, rfl⟩ := hR.addr (by omega)
        obtain ⟨r, hr⟩ : ∃ r, L.getD k dRl = r := ⟨_, rfl⟩
        obtain ⟨c0, c1, c2, c3, c4, c5, c6, c7, c8, c9⟩ := hR.at hlt hr
        have hi : (k : Int) < (L.length : Int) := by omega
        have HRr := Lib.hid hr
        clear hR hr
        cases hm : mayR r with
        | false =>
          have hno : okB L = false := by
            cases hq : okB L with
            | false => rfl
            | true =>
              have := ((okB_iff L).1 hq).2 r (by rw [← HRr.out]; exact Rl.mem hlt)
              rw [hm] at this
              cases this
          rw [hno] at HV
          obtain ⟨rK, rI, rIM, rS, rSM, rV, rVM, rA, rAM, rN⟩ := r
          simp only at c0 c1 c2 c3 c4 c5 c6 c7 c8 c9
          by_cases hlow : rK < 1
          · have q1 : decide (rK < 1) = true := decide_eq_true hlow
            clear hm hno HRr hlow
            go_wp2
            go_ret
            exact ⟨by rw [HV.out]; rfl, NB.out.al _⟩
          · have q1 : decide (rK < 1) = false := decide_eq_false hlow
            have q2 : decide (7 < rK) = true := decide_eq_true (by
              have h1 : ¬ (1 ≤ rK ∧ rK ≤ 7) := fun hh => by
                have := (mayR_iff ⟨rK, rI, rIM, rS, rSM, rV, rVM, rA, rAM, rN⟩).2 hh
                rw [hm] at this
                cases this
              omega)
            clear hm hno HRr hlow
            go_wp2
            go_ret
            exact ⟨by rw [HV.out]; rfl, NB.out.al _⟩
        | true =>
          have HT := Lib.hid (show mayR (L.getD k dRl) = true by rw [HRr.out]; exact hm)
          obtain ⟨rK, rI, rIM, rS, rSM, rV, rVM, rA, rAM, rN⟩ := r
          simp only at c0 c1 c2 c3 c4 c5 c6 c7 c8 c9
          have hb : 1 ≤ rK ∧ rK ≤ 7 := (mayR_iff _).1 hm
          have q1 : decide (rK < 1) = false := decide_eq_false (by omega)
          have q2 : decide (7 < rK) = false := decide_eq_false (by omega)
          clear hm HRr hb
          go_wp2
          go_roundw
          case rel => exact ⟨k + 1, by omega, by go_num, fun j hj => by
            by_cases hjk : j = k
            · subst hjk; exact HT.out
            · exact H0.out j (by omega), NB1.out.al _⟩
          case measure => simp [intOf]; omega
      · obtain rfl : k = L.length := by omega
        have hyes : okB L = true := (okB_iff L).2 ⟨by have := H32.out; omega, fun r hr => by
          obtain ⟨i, hi, rfl⟩ := List.getElem_of_mem hr
          have := H0.out i hi
          rwa [show L.getD i dRl = L[i] by simp [List.getD, hi]] at this⟩
        rw [hyes] at HV
        clear hyes
        go_wp2
        go_ret
        exact ⟨by rw [HV.out]; rfl, NB.out⟩

/-- A frame's fields' own widths. -/
structure WdH (f : Hd) : Prop where
  I : 0 ≤ f.I ∧ f.I < 4294967296
  D : 0 ≤ f.D ∧ f.D < 256
  V : 0 ≤ f.V ∧ f.V < 256
  A : 0 ≤ f.A ∧ f.A < 4294967296
/-- Whether a rule is of a frame, in the document's words. -/
def docR (f : Hd) (r : Rl) (hs : Bool) : Bool := hs && ((bits BinOp.and IntKind.u32 f.I r.IM == bits BinOp.and IntKind.u32 r.I r.IM) && ((bits BinOp.and IntKind.u8 f.D r.SM == bits BinOp.and IntKind.u8 r.S r.SM) && ((bits BinOp.and IntKind.u8 f.V r.VM == bits BinOp.and IntKind.u8 r.V r.VM) && (bits BinOp.and IntKind.u32 f.A r.AM == bits BinOp.and IntKind.u32 r.A r.AM))))
theorem docR_eq {f : Hd} {r : Rl} (hf : WdH f) (hr : WdR r) : ofR f r = docR f r (hasK r.K f.K) := by
  unfold ofR docR
  rw [al32_eq hf.I hr.I hr.IM, al8_eq hf.D hr.S hr.SM, al8_eq hf.V hr.V hr.VM, al32_eq hf.A hr.A hr.AM]

set_option maxHeartbeats 1600000 in
set_option maxRecDepth 100000 in
theorem reffits_any (f : Hd) (a : Option Addr) (cap : Nat) (d : List Nat) (r : Rl) (w : World) (hd : d.length ≤ 9223372036854775807) (hf : WdH f) (hr : WdR r) :
    Calls Tryd.prog 16 #[.agg r.ca, .agg (f.cs (.slice a d.length cap))] w fun e w' => e = .returned (.bool (fitR f d r)) ∧ Nb w w' := by
  have HC := Lib.hid (fun w' => refcheck5_any f a cap d w' hd)
  obtain ⟨v, hv⟩ : ∃ v, v = fitR f d r := ⟨_, rfl⟩
  rw [← hv]
  have HV := Lib.hid (show v = (mayR r && (okF f d && docR f r (hasK r.K f.K))) by rw [hv, ← docR_eq hf hr]; rfl)
  clear hv hf hr
  by_cases hlow : r.K < 1
  · rw [show mayR r = false by simp only [mayR]; rw [decide_eq_false (by omega)]; rfl] at HV
    obtain ⟨K, I, X, R, B, E, S, D, V, A⟩ := f
    obtain ⟨rK, rI, rIM, rS, rSM, rV, rVM, rA, rAM, rN⟩ := r
    simp only [Hd.cs, Rl.ca] at hlow ⊢
    have q1 : decide (rK < 1) = true := decide_eq_true hlow
    clear HC hlow
    go_enter Tryd.func16, Tryd.ntmps16
    go_wp2
    go_ret
    exact ⟨by rw [HV.out]; simp, (Nb.rfl.al _).al _⟩
  by_cases hhi : 7 < r.K
  · rw [show mayR r = false by simp only [mayR]; rw [decide_eq_false (show ¬ r.K ≤ 7 by omega)]; simp] at HV
    obtain ⟨K, I, X, R, B, E, S, D, V, A⟩ := f
    obtain ⟨rK, rI, rIM, rS, rSM, rV, rVM, rA, rAM, rN⟩ := r
    simp only [Hd.cs, Rl.ca] at hlow hhi ⊢
    have q1 : decide (rK < 1) = false := decide_eq_false hlow
    have q2 : decide (7 < rK) = true := decide_eq_true hhi
    clear HC hlow hhi
    go_enter Tryd.func16, Tryd.ntmps16
    go_wp2
    go_ret
    exact ⟨by rw [HV.out]; simp, (Nb.rfl.al _).al _⟩
  have hK : 1 ≤ r.K ∧ r.K ≤ 7 := ⟨by omega, by omega⟩
  rw [(mayR_iff r).2 hK] at HV
  cases hk : okF f d with
  | false =>
    rw [show checkN f d = 2 by simp [checkN, hk]] at HC
    rw [hk] at HV
    obtain ⟨K, I, X, R, B, E, S, D, V, A⟩ := f
    obtain ⟨rK, rI, rIM, rS, rSM, rV, rVM, rA, rAM, rN⟩ := r
    simp only [Hd.cs, Rl.ca] at HC hlow hhi ⊢
    have q1 : decide (rK < 1) = false := decide_eq_false hlow
    have q2 : decide (7 < rK) = false := decide_eq_false hhi
    clear hlow hhi hk hK
    go_enter Tryd.func16, Tryd.ntmps16
    go_wp2_with fail
    refine (HC.out _).mono ?_
    rintro e w1 ⟨rfl, n1⟩
    go_wp2
    go_ret
    exact ⟨by rw [HV.out]; simp, ((Nb.rfl.al _).al _).tr n1⟩
  | true =>
    rw [show checkN f d = 0 by simp [checkN, hk]] at HC
    rw [hk, hasK_ref hK (okF_kind hk)] at HV
    have hkind := okF_kind hk
    obtain ⟨K, I, X, R, B, E, S, D, V, A⟩ := f
    obtain ⟨rK, rI, rIM, rS, rSM, rV, rVM, rA, rAM, rN⟩ := r
    simp only [Hd.cs, Rl.ca, docR] at HC HV hlow hhi hkind hK ⊢
    generalize hb1 : (bits BinOp.and IntKind.u32 I rIM == bits BinOp.and IntKind.u32 rI rIM) = b1 at *
    generalize hb2 : (bits BinOp.and IntKind.u8 D rSM == bits BinOp.and IntKind.u8 rS rSM) = b2 at *
    generalize hb3 : (bits BinOp.and IntKind.u8 V rVM == bits BinOp.and IntKind.u8 rV rVM) = b3 at *
    generalize hb4 : (bits BinOp.and IntKind.u32 A rAM == bits BinOp.and IntKind.u32 rA rAM) = b4 at *
    have q1 : decide (rK < 1) = false := decide_eq_false hlow
    have q2 : decide (7 < rK) = false := decide_eq_false hhi
    have BR := Lib.hid ((Blk.new w #[.int .i64 rK, .int .u32 rI, .int .u32 rIM, .int .u8 rS, .int .u8 rSM, .int .u8 rV, .int .u8 rVM, .int .u32 rA, .int .u32 rAM, .bool rN] 42).nb (Nb.rfl.al (.cells #[.int .i64 K, .int .u32 I, .bool X, .bool R, .bool B, .bool E, .bool S, .int .u8 D, .int .u8 V, .int .u32 A, .slice a d.length cap] 28)))
    have BF := Lib.hid (Blk.new (w.alloc (.cells #[.int .i64 rK, .int .u32 rI, .int .u32 rIM, .int .u8 rS, .int .u8 rSM, .int .u8 rV, .int .u8 rVM, .int .u32 rA, .int .u32 rAM, .bool rN] 42)) #[.int .i64 K, .int .u32 I, .bool X, .bool R, .bool B, .bool E, .bool S, .int .u8 D, .int .u8 V, .int .u32 A, .slice a d.length cap] 28)
    rw [World.size_alloc] at BF
    clear hlow hhi hk
    rcases hkind with rfl | rfl | rfl <;> rcases seven hK with rfl | rfl | rfl | rfl | rfl | rfl | rfl
    all_goals clear hK q1 q2
    all_goals (
      go_enter Tryd.func16, Tryd.ntmps16
      go_wp2_with fail
      refine (HC.out _).mono ?_
      rintro e w1 ⟨rfl, n1⟩
      obtain ⟨c0, c1, c2, c3, c4, c5, c6, c7, c8, c9, c10⟩ := (BF.out.nb n1).c11
      obtain ⟨e0, e1, e2, e3, e4, e5, e6, e7, e8, e9⟩ := (BR.out.nb n1).r10
      have N1 := Lib.hid (((Nb.rfl.al _).al _).tr n1 : Nb w w1)
      clear n1
      go_wp2)
    all_goals go_ret
    all_goals exact ⟨by rw [HV.out]; simp_all, N1.out⟩
end Go.Proofs.YtaohmgklhecjbaaDoor
