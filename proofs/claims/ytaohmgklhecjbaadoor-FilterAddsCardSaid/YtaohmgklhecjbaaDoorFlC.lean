
/- The program's Find and In. Condition: the table of longer sizes holds what the program's text lays there. -/
import Derived.Test.YtaohmgklhecjbaaDoorFlB
namespace Go.Proofs.YtaohmgklhecjbaaDoor
set_option linter.unusedVariables false
set_option linter.unusedSimpArgs false
open Go.RowKit Go.Sort

theorem cfFits : ∀ args w, (callFunc 25 args).run Tryd.prog w = .ok (.enter 25 args) w := hcf _ _ Tryd.func25 (by kernel_rfl) (by kernel_rfl)
theorem cfTwin : ∀ args w, (callFunc 29 args).run Tryd.prog w = .ok (.enter 29 args) w := hcf _ _ Tryd.func29 (by kernel_rfl) (by kernel_rfl)

theorem Blk.r2 {w : World} {R : Nat} {u0 u1 : Value} {t : TypeId} (h : Blk w R #[u0, u1] t) : w.cell? ⟨R, 0, none⟩ = some u0 ∧ w.cell? ⟨R, 1, none⟩ = some u1 := ⟨h.cell 0, h.cell 1⟩

set_option maxHeartbeats 1600000 in
set_option maxRecDepth 100000 in
theorem find15_any (f : Hd) (a : Option Addr) (cap : Nat) (d : List Nat) (bo : Option Addr) (bc : Nat) (L : List Rl) (el : Bool) (w : World) (h : Bs w a cap d) (hR : Rls w bo bc L) (hl : Longer w) :
    Calls Tryd.prog 11 #[.agg #[.slice bo L.length bc, .bool el], .agg (f.cs (.slice a d.length cap))] w fun e w' => e = .returned (.tuple #[.int .i64 (findN f d L : Nat), .int .i64 (findE f d L : Nat)]) ∧ Nb w w' := by
  have HB := Lib.hid (fun w' (n : Nb w w') => check15_any L bo bc el w' (hR.below n))
  have HC := Lib.hid (fun w' (n : Nb w w') => check5_any f a cap d w' (h.below n) (hl.below n))
  have HI := Lib.hid (fun (hk : okF f d = true) w' (n : Nb w w') => indexF_any 25 (.agg (f.cs (.slice a d.length cap))) (ofR f) L bo bc w' (hR.below n) cfFits (fun r _ w2 _ => fits15_any f a d.length cap r w2 (okF_kind hk)))
  have hd := h.len
  have hL := hR.len
  obtain ⟨v, hv⟩ : ∃ v, v = findN f d L := ⟨_, rfl⟩
  obtain ⟨er, her⟩ : ∃ er, er = findE f d L := ⟨_, rfl⟩
  rw [← hv, ← her]
  have HV := Lib.hid (show v = if banF f d L then (L.findIdx? (ofR f)).getD 0 else 0 from hv)
  have HE := Lib.hid (show er = if banF f d L then (if L.any (ofR f) then 0 else 9) else 2 from her)
  have hmf : ∀ (fn : Fn) (first cap : Array Value) (w : World), (Instr.makeFunc fn first cap).run Tryd.prog w = .ok (.func fn first cap) w := fun _ _ _ _ => rfl
  clear hv her h hR hl
  cases hb : okB L with
  | false =>
    rw [show banF f d L = false by simp [banF, hb]] at HV HE
    rw [show bkE L = 2 by simp [bkE, hb]] at HB
    obtain ⟨K, I, X, R, B, E, S, D, V, A⟩ := f
    simp only [Hd.cs] at ⊢
    clear HC HI hb hmf
    go_enter Tryd.func11, Tryd.ntmps11
    go_wp2_with fail
    refine (HB.out _ ((Nb.rfl.al _).al _)).mono ?_
    rintro e w1 ⟨rfl, n1⟩
    go_wp2
    go_ret2
    exact ⟨by rw [HV.out, HE.out]; rfl, ((Nb.rfl.al _).al _).tr n1⟩
  | true =>
    rw [show bkE L = 0 by simp [bkE, hb]] at HB
    cases hk : okF f d with
    | false =>
      rw [show banF f d L = false by simp [banF, hk]] at HV HE
      rw [show checkN f d = 2 by simp [checkN, hk]] at HC
      obtain ⟨K, I, X, R, B, E, S, D, V, A⟩ := f
      simp only [Hd.cs] at HC ⊢
      have BF := Lib.hid (Blk.new (w.alloc (.cells #[.slice bo L.length bc, .bool el] 32)) #[.int .i64 K, .int .u32 I, .bool X, .bool R, .bool B, .bool E, .bool S, .int .u8 D, .int .u8 V, .int .u32 A, .slice a d.length cap] 28)
      rw [World.size_alloc] at BF
      clear HI hb hk hmf
      go_enter Tryd.func11, Tryd.ntmps11
      go_wp2_with fail
      refine (HB.out _ ((Nb.rfl.al _).al _)).mono ?_
      rintro e w1 ⟨rfl, n1⟩
      have N1 := Lib.hid (((Nb.rfl.al _).al _).tr n1 : Nb w w1)
      obtain ⟨c0, c1, c2, c3, c4, c5, c6, c7, c8, c9, c10⟩ := (BF.out.nb n1).c11
      clear n1
      go_wp2_with fail
      refine (HC.out _ N1.out).mono ?_
      rintro e w2 ⟨rfl, n2⟩
      go_wp2
      go_ret2
      exact ⟨by rw [HV.out, HE.out]; rfl, N1.out.tr n2⟩
    | true =>
      rw [show banF f d L = true by simp [banF, hb, hk]] at HV HE
      rw [show checkN f d = 0 by simp [checkN, hk]] at HC
      have HI2 := Lib.hid (HI.out hk)
      have hiv : (L.any (ofR f) = true ∧ ∃ i, idxV (ofR f) L = ((i : Nat) : Int) ∧ v = i ∧ er = 0) ∨ (idxV (ofR f) L = -1 ∧ v = 0 ∧ er = 9) := by
        cases ha : L.any (ofR f) with
        | true =>
          obtain ⟨i, h2, _⟩ := first_at _ L ha
          refine .inl ⟨rfl, i, by simp [idxV, h2], ?_, ?_⟩
          · rw [HV.out, h2]; rfl
          · rw [HE.out, ha]; rfl
        | false =>
          have h2 := (none_at _ L ha).1
          refine .inr ⟨by simp [idxV, h2], ?_, ?_⟩
          · rw [HV.out, h2]; rfl
          · rw [HE.out, ha]; rfl
      generalize idxV (ofR f) L = iv at *
      have HIV := Lib.hid hiv
      obtain ⟨K, I, X, R, B, E, S, D, V, A⟩ := f
      simp only [Hd.cs] at HC HI2 ⊢
      have BB := Lib.hid ((Blk.new w #[.slice bo L.length bc, .bool el] 32).nb (Nb.rfl.al (.cells #[.int .i64 K, .int .u32 I, .bool X, .bool R, .bool B, .bool E, .bool S, .int .u8 D, .int .u8 V, .int .u32 A, .slice a d.length cap] 28)))
      have BF := Lib.hid (Blk.new (w.alloc (.cells #[.slice bo L.length bc, .bool el] 32)) #[.int .i64 K, .int .u32 I, .bool X, .bool R, .bool B, .bool E, .bool S, .int .u8 D, .int .u8 V, .int .u32 A, .slice a d.length cap] 28)
      rw [World.size_alloc] at BF
      clear HI hb hk HV HE hiv
      go_enter Tryd.func11, Tryd.ntmps11
      go_wp2_with fail
      refine (HB.out _ ((Nb.rfl.al _).al _)).mono ?_
      rintro e w1 ⟨rfl, n1⟩
      have N1 := Lib.hid (((Nb.rfl.al _).al _).tr n1 : Nb w w1)
      have BF1 := Lib.hid (BF.out.nb n1)
      have BB1 := Lib.hid (BB.out.nb n1)
      obtain ⟨c0, c1, c2, c3, c4, c5, c6, c7, c8, c9, c10⟩ := BF1.out.c11
      clear n1
      go_wp2_with fail
      refine (HC.out _ N1.out).mono ?_
      rintro e w2 ⟨rfl, n2⟩
      have N2 := Lib.hid (N1.out.tr n2)
      clear c0 c1 c2 c3 c4 c5 c6 c7 c8 c9 c10
      obtain ⟨c0, c1, c2, c3, c4, c5, c6, c7, c8, c9, c10⟩ := (BF1.out.nb n2).c11
      obtain ⟨e0, e1⟩ := (BB1.out.nb n2).r2
      clear n2
      go_wp2_with fail
      refine (HI2.out _ N2.out).mono ?_
      rintro e w3 ⟨rfl, n3⟩
      have N3 := Lib.hid (N2.out.tr n3)
      clear n3 c0 c1 c2 c3 c4 c5 c6 c7 c8 c9 c10 e0 e1
      rcases HIV.out with ⟨_, i, rfl, rfl, rfl⟩ | ⟨rfl, rfl, rfl⟩
      · have hz : decide ((v : Int) < 0) = false := decide_eq_false (by omega)
        clear HIV
        go_wp2
        go_ret2
        exact ⟨rfl, N3.out⟩
      · clear HIV
        go_wp2
        go_ret2
        exact ⟨rfl, N3.out⟩

set_option maxHeartbeats 1600000 in
set_option maxRecDepth 100000 in
theorem in15_any (f : Hd) (a : Option Addr) (cap : Nat) (d : List Nat) (bo : Option Addr) (bc : Nat) (L : List Rl) (el : Bool) (w : World) (h : Bs w a cap d) (hR : Rls w bo bc L) (hl : Longer w) :
    Calls Tryd.prog 13 #[.agg #[.slice bo L.length bc, .bool el], .agg (f.cs (.slice a d.length cap))] w fun e w' => e = .returned (.tuple #[.bool (inV f d L el), .int .i64 (inE f d L : Nat)]) ∧ Nb w w' := by
  have HF := Lib.hid (fun w' (n : Nb w w') => find15_any f a cap d bo bc L el w' (h.below n) (hR.below n) (hl.below n))
  have hd := h.len
  have hL := hR.len
  have HR := Lib.hid hR
  obtain ⟨v, hv⟩ : ∃ v, v = inV f d L el := ⟨_, rfl⟩
  obtain ⟨er, her⟩ : ∃ er, er = inE f d L := ⟨_, rfl⟩
  rw [← hv, ← her]
  have HV := Lib.hid (show v = if banF f d L then (match L.find? (ofR f) with | some r => r.N | none => el) else false from hv)
  have HE := Lib.hid (show er = if banF f d L then 0 else 2 from her)
  clear hv her h hR hl
  have hc : (findE f d L = 2 ∧ v = false ∧ er = 2) ∨ (findE f d L = 9 ∧ v = el ∧ er = 0) ∨ (findE f d L = 0 ∧ findN f d L < L.length ∧ v = (L.getD (findN f d L) dRl).N ∧ er = 0) := by
    cases hb : banF f d L with
    | false =>
      rw [hb] at HV HE
      exact .inl ⟨by simp [findE, hb], HV.out, HE.out⟩
    | true =>
      rw [hb] at HV HE
      refine .inr ?_
      cases ha : L.any (ofR f) with
      | false =>
        obtain ⟨h1, h2, _⟩ := none_at _ L ha
        refine .inl ⟨by simp [findE, hb, ha], ?_, HE.out⟩
        rw [HV.out, h2]
        rfl
      | true =>
        obtain ⟨i, h1, h2, h3, _⟩ := first_at _ L ha
        have e : findN f d L = i := by simp [findN, hb, h1]
        refine .inr ⟨by simp [findE, hb, ha], by rw [e]; exact h2, ?_, HE.out⟩
        rw [HV.out, h3, e]
        rfl
  generalize findE f d L = fe at *
  generalize findN f d L = fn at *
  clear HV HE
  obtain ⟨K, I, X, R, B, E, S, D, V, A⟩ := f
  simp only [Hd.cs] at HF ⊢
  have BB := Lib.hid ((Blk.new w #[.slice bo L.length bc, .bool el] 32).nb (Nb.rfl.al (.cells #[.int .i64 K, .int .u32 I, .bool X, .bool R, .bool B, .bool E, .bool S, .int .u8 D, .int .u8 V, .int .u32 A, .slice a d.length cap] 28)))
  rcases hc with ⟨rfl, rfl, rfl⟩ | ⟨rfl, rfl, rfl⟩ | ⟨rfl, h1, h2, rfl⟩
  · go_enter Tryd.func13, Tryd.ntmps13
    go_wp2_with fail
    refine (HF.out _ ((Nb.rfl.al _).al _)).mono ?_
    rintro e w1 ⟨rfl, n1⟩
    go_wp2
    go_ret2
    exact ⟨rfl, ((Nb.rfl.al _).al _).tr n1⟩
  · go_enter Tryd.func13, Tryd.ntmps13
    go_wp2_with fail
    refine (HF.out _ ((Nb.rfl.al _).al _)).mono ?_
    rintro e w1 ⟨rfl, n1⟩
    obtain ⟨e0, e1⟩ := (BB.out.nb n1).r2
    go_wp2
    go_ret2
    exact ⟨rfl, ((Nb.rfl.al _).al _).tr n1⟩
  · obtain ⟨r, hr⟩ : ∃ r, L.getD fn dRl = r := ⟨_, rfl⟩
    rw [h2, hr]
    clear h2
    obtain ⟨b, o, rfl⟩ := HR.out.addr (by omega)
    go_enter Tryd.func13, Tryd.ntmps13
    go_wp2_with fail
    refine (HF.out _ ((Nb.rfl.al _).al _)).mono ?_
    rintro e w1 ⟨rfl, n1⟩
    have N1 := Lib.hid (((Nb.rfl.al _).al _).tr n1 : Nb w w1)
    obtain ⟨e0, e1⟩ := (BB.out.nb n1).r2
    obtain ⟨c0, c1, c2, c3, c4, c5, c6, c7, c8, c9⟩ := (HR.out.below N1.out).at h1 hr
    have hi : (fn : Int) < (L.length : Int) := by omega
    clear n1 hr
    go_wp2
    go_ret2
    exact ⟨rfl, N1.out⟩
end Go.Proofs.YtaohmgklhecjbaaDoor
