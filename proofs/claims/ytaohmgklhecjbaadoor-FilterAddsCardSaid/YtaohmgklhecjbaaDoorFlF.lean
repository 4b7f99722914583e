
/- The law's own To and From. Conditions: sizes below 2 to the 47. -/
import Derived.Test.YtaohmgklhecjbaaDoorFlL
namespace Go.Proofs.YtaohmgklhecjbaaDoor
set_option linter.unusedVariables false
set_option linter.unusedSimpArgs false
open Go.RowKit Go.Sort

/-- A bank whose rules are the call's own. -/
def BankR (w : World) (L : List Rl) (el : Bool) (e : Ending) (w' : World) : Prop := ∃ (a : Option Addr) (c : Nat), e = .returned (.agg #[.slice a L.length c, .bool el]) ∧ OwnR w' (.slice a L.length c) L ∧ ∀ g, Value.ownBlock (.slice a L.length c) = some g → w.heap.size ≤ g

set_option maxHeartbeats 3200000 in
set_option maxRecDepth 100000 in
theorem lawTo_any (L : List Rl) (bo : Option Addr) (bc : Nat) (el : Bool) (w : World) (h : Rls w bo bc L) (hsz : L.length * 32 ≤ 140737488355328) :
    Calls Tryd.prog 10 #[.agg #[.slice bo L.length bc, .bool el]] w fun e w' => BankR w L el e w' ∧ Nb w w' := by
  have hL := h.len
  have HR := Lib.hid h
  obtain ⟨z1, hz1⟩ : ∃ z1, z1 = ((w.alloc (.cells #[.slice bo L.length bc, .bool el] 24)).alloc (.cells #[.slice none 0 0, .bool false] 32)).alloc (.cells #[.slice none 0 0, .bool el] 32) := ⟨_, rfl⟩
  obtain ⟨B, hB⟩ : ∃ B, B = w.heap.size := ⟨_, rfl⟩
  have NZ := Lib.hid (show Nb w z1 by rw [hz1]; exact ((Nb.rfl.al _).al _).al _)
  have BB := Lib.hid (show Blk z1 B #[.slice bo L.length bc, .bool el] 24 by rw [hz1, hB]; exact (Blk.new w _ _).nb ((Nb.rfl.al _).al _))
  have BX := Lib.hid (show Blk z1 (B + 1) #[.slice none 0 0, .bool false] 32 by
    rw [hz1, hB]
    have := (Blk.new (w.alloc (.cells #[.slice bo L.length bc, .bool el] 24)) #[.slice none 0 0, .bool false] 32).nb (Nb.rfl.al (.cells #[.slice none 0 0, .bool el] 32))
    rwa [World.size_alloc] at this)
  have BO := Lib.hid (show Blk z1 (B + 1 + 1) #[.slice none 0 0, .bool el] 32 by
    rw [hz1, hB]
    have := Blk.new ((w.alloc (.cells #[.slice bo L.length bc, .bool el] 24)).alloc (.cells #[.slice none 0 0, .bool false] 32)) #[.slice none 0 0, .bool el] 32
    rwa [World.size_alloc, World.size_alloc] at this)
  have HB := Lib.hid hB
  have hBz : B + 1 + 1 < z1.heap.size := BO.out.lt
  clear h
  go_enter Tryd.func10, Tryd.ntmps10
  go_wp2
  rw [← hz1, ← hB]
  clear hz1 hB
  go_loopw [12] (fun ix wr => ∃ (k : Nat) (v : Value), k ≤ L.length ∧ ix = .int .i64 k ∧ OwnR wr v (L.take k) ∧ (∀ g, v.ownBlock = some g → z1.heap.size ≤ g) ∧ Blk wr (B + 1 + 1) #[v, .bool el] 32 ∧ Kp (fun b => b = B + 1 + 1) z1 wr) (fun ix _ => L.length - (intOf ix).toNat)
  case atStart => exact ⟨0, _, Nat.zero_le _, rfl, OwnR.nil _, fun g e => by simp [Value.ownBlock] at e, BO.out, Kp.rfl⟩
  case round =>
    obtain ⟨k, v, hk, rfl, ho, hg, hb, hn⟩ := hrel
    have htl : (L.take k).length = k := by rw [List.length_take]; omega
    obtain ⟨va, vc, hve, -, -, -, -⟩ := ho.shape
    rw [htl] at hve
    subst hve
    have HTL := Lib.hid htl
    have OI := Lib.hid ho
    have GI := Lib.hid hg
    have BI := Lib.hid hb
    have KI := Lib.hid hn
    have NI := Lib.hid (show Nb w wr from NZ.out.trans (hn.toBelow NZ.out.size (fun g e => by have := HB.out; omega)))
    obtain ⟨m0, m1⟩ := hb.r2
    have hlt2 : B + 1 + 1 < wr.heap.size := hb.lt
    clear ho hg hb hn htl
    by_cases hlt : k < L.length
    · have hR := HR.out.below NI.out
      obtain ⟨b, o, rfl⟩ := hR.addr (by omega)
      obtain ⟨r, hr⟩ : ∃ r, L.getD k dRl = r := ⟨_, rfl⟩
      obtain ⟨c0, c1, c2, c3, c4, c5, c6, c7, c8, c9⟩ := hR.at hlt hr
      have HW := Lib.hid (show WdR r by rw [← hr]; exact hR.wd _ (Rl.mem hlt))
      have HT := Lib.hid (show L.take (k + 1) = L.take k ++ [r] by rw [List.take_add_one, ← hr]; simp [List.getD, hlt])
      have hi : (k : Int) < (L.length : Int) := by omega
      clear hR hr
      obtain ⟨rK, rI, rIM, rS, rSM, rV, rVM, rA, rAM, rN⟩ := r
      simp only at c0 c1 c2 c3 c4 c5 c6 c7 c8 c9
      obtain ⟨y, hy⟩ : ∃ y, y = (wr.alloc (.cells #[.int .i64 rK, .int .u32 rI, .int .u32 rIM, .int .u8 rS, .int .u8 rSM, .int .u8 rV, .int .u8 rVM, .int .u32 rA, .int .u32 rAM, .bool rN] 42)).alloc (.cells #[.int .i64 rK, .int .u32 rI, .int .u32 rIM, .int .u8 rS, .int .u8 rSM, .int .u8 rV, .int .u8 rVM, .int .u32 rA, .int .u32 rAM, .bool rN] 44) := ⟨_, rfl⟩
      have NY := Lib.hid (show Nb wr y by rw [hy]; exact (Nb.rfl.al _).al _)
      have BL := Lib.hid (show Blk y (wr.heap.size + 1) #[.int .i64 rK, .int .u32 rI, .int .u32 rIM, .int .u8 rS, .int .u8 rSM, .int .u8 rV, .int .u8 rVM, .int .u32 rA, .int .u32 rAM, .bool rN] 44 by
        rw [hy]
        have := Blk.new (wr.alloc (.cells #[.int .i64 rK, .int .u32 rI, .int .u32 rIM, .int .u8 rS, .int .u8 rSM, .int .u8 rV, .int .u8 rVM, .int .u32 rA, .int .u32 rAM, .bool rN] 42)) #[.int .i64 rK, .int .u32 rI, .int .u32 rIM, .int .u8 rS, .int .u8 rSM, .int .u8 rV, .int .u8 rVM, .int .u32 rA, .int .u32 rAM, .bool rN] 44
        rwa [World.size_alloc] at this)
      have HY := Lib.hid hy
      clear hy
      go_wp2_with (at_builtin; rw [← HY.out]; refine wpList_appR _ rfl (.tmp 17) (.tmp 19) rfl (.slice va k vc) (L.take k) (by rfl) (OI.out.nb NY.out) (some ⟨wr.heap.size + 1, 0, none⟩) 1 1 [⟨rK, rI, rIM, rS, rSM, rV, rVM, rA, rAM, rN⟩] rfl rfl (Rls.lit HW.out BL.out) (fun h => by cases h) (by rw [HTL.out, List.length_singleton]; omega) ?_; intro v7 w7 ho7 hk7 hg7; obtain ⟨va7, vc7, hv7, -, -, -, -⟩ := ho7.shape; rw [List.length_append, HTL.out, List.length_singleton] at hv7; subst hv7; have O7 := Lib.hid ho7; have K7 := Lib.hid hk7; have G7 := Lib.hid hg7; have B7 := Lib.hid ((BI.out.nb NY.out).keep hk7 (fun e => by have := GI.out _ e; have := hBz; omega)); have m7 := B7.out.cell 0; have f7 := B7.out.frozen 0; have hlt7 : B + 1 + 1 < w7.heap.size := B7.out.lt; clear ho7 hk7 hg7)
      have s2 : z1.heap.size ≤ wr.heap.size := KI.out.size
      have sy : wr.heap.size ≤ y.heap.size := NY.out.size
      have K8 := Lib.hid (show Kp (fun b => b = B + 1 + 1) z1 (w7.setCell ⟨B + 1 + 1, 0, none⟩ (.slice va7 (k + 1) vc7)) from
        (KI.out.tr ((Kp.ofNb (F := fun b => Value.ownBlock (.slice va k vc) = some b) NY.out).tr K7.out (fun g e => .inl e)) (fun g e => .inr (GI.out g e))).tr (Kp.set (F := fun b => b = B + 1 + 1) rfl) (fun _ e => .inl e))
      have B8 := Lib.hid (B7.out.set 0 (.slice va7 (k + 1) vc7))
      have O8 := Lib.hid (O7.out.keep (Kp.set (F := fun b => b = B + 1 + 1) (p := ⟨B + 1 + 1, 0, none⟩) (u := .slice va7 (k + 1) vc7) rfl) (fun g e q => by
        rcases G7.out g e with h1 | h1
        · have := GI.out g h1; have := hBz; omega
        · have := hBz; omega))
      go_roundw
      case rel => exact ⟨k + 1, _, by omega, by go_num, by rw [HT.out]; exact O8.out, fun g e => by
        rcases G7.out g e with h1 | h1
        · exact GI.out g h1
        · omega, B8.out, K8.out⟩
      case measure => simp [intOf]; omega
    · obtain rfl : k = L.length := by omega
      have X1 := Lib.hid (BX.out.keep KI.out (by omega))
      go_wp2_with (refine wpList_store_row (by rfl) _ _ _ (by rfl) _ _ (by rfl) (by rfl) _ _ X1.out (by kernel_rfl) (by rfl) (by simp [Value.oneCell']) ?_)
      have hb := Blk.rowF X1.out #[.slice va L.length vc, .bool el]
      have kq := Kp.rowF wr (B + 1) #[.slice va L.length vc, .bool el]
      change bodyPost _ _ _ _ _ (World.setRow wr (B + 1) #[.slice va L.length vc, .bool el])
      generalize World.setRow wr (B + 1) #[.slice va L.length vc, .bool el] = WW at hb kq ⊢
      obtain ⟨q0, q1⟩ := hb.r2
      refine bodyPost_ret (v := .agg #[.slice va L.length vc, .bool el]) (by simp [results, Tryd.results10, go_sem, q0, q1]) rfl ?_
      refine ⟨⟨va, vc, rfl, ?_, fun g e => Nat.le_trans NZ.out.size (GI.out g e)⟩, NI.out.trans (kq.toBelow NI.out.size (fun k hk => by have := HB.out; omega))⟩
      have hO := OI.out
      rw [List.take_length] at hO
      exact hO.keep kq (fun g e q => by have := GI.out g e; have := hBz; omega)
/-- A bank whose rules are the call's own. -/
def BankG (w : World) (L : List Rl) (el : Bool) (e : Ending) (w' : World) : Prop := ∃ (a : Option Addr) (c : Nat), e = .returned (.agg #[.slice a L.length c, .bool el]) ∧ OwnG w' (.slice a L.length c) L ∧ ∀ g, Value.ownBlock (.slice a L.length c) = some g → w.heap.size ≤ g

set_option maxHeartbeats 3200000 in
set_option maxRecDepth 100000 in
theorem lawFrom_any (L : List Rl) (bo : Option Addr) (bc : Nat) (el : Bool) (w : World) (h : Rls w bo bc L) (hsz : L.length * 32 ≤ 140737488355328) :
    Calls Tryd.prog 22 #[.agg #[.slice bo L.length bc, .bool el]] w fun e w' => BankG w L el e w' ∧ Nb w w' := by
  have hL := h.len
  have HR := Lib.hid h
  obtain ⟨z1, hz1⟩ : ∃ z1, z1 = ((w.alloc (.cells #[.slice bo L.length bc, .bool el] 32)).alloc (.cells #[.slice none 0 0, .bool false] 24)).alloc (.cells #[.slice none 0 0, .bool el] 24) := ⟨_, rfl⟩
  obtain ⟨B, hB⟩ : ∃ B, B = w.heap.size := ⟨_, rfl⟩
  have NZ := Lib.hid (show Nb w z1 by rw [hz1]; exact ((Nb.rfl.al _).al _).al _)
  have BB := Lib.hid (show Blk z1 B #[.slice bo L.length bc, .bool el] 32 by rw [hz1, hB]; exact (Blk.new w _ _).nb ((Nb.rfl.al _).al _))
  have BX := Lib.hid (show Blk z1 (B + 1) #[.slice none 0 0, .bool false] 24 by
    rw [hz1, hB]
    have := (Blk.new (w.alloc (.cells #[.slice bo L.length bc, .bool el] 32)) #[.slice none 0 0, .bool false] 24).nb (Nb.rfl.al (.cells #[.slice none 0 0, .bool el] 24))
    rwa [World.size_alloc] at this)
  have BO := Lib.hid (show Blk z1 (B + 1 + 1) #[.slice none 0 0, .bool el] 24 by
    rw [hz1, hB]
    have := Blk.new ((w.alloc (.cells #[.slice bo L.length bc, .bool el] 32)).alloc (.cells #[.slice none 0 0, .bool false] 24)) #[.slice none 0 0, .bool el] 24
    rwa [World.size_alloc, World.size_alloc] at this)
  have HB := Lib.hid hB
  have hBz : B + 1 + 1 < z1.heap.size := BO.out.lt
  clear h
  go_enter Tryd.func22, Tryd.ntmps22
  go_wp2
  rw [← hz1, ← hB]
  clear hz1 hB
  go_loopw [12] (fun ix wr => ∃ (k : Nat) (v : Value), k ≤ L.length ∧ ix = .int .i64 k ∧ OwnG wr v (L.take k) ∧ (∀ g, v.ownBlock = some g → z1.heap.size ≤ g) ∧ Blk wr (B + 1 + 1) #[v, .bool el] 24 ∧ Kp (fun b => b = B + 1 + 1) z1 wr) (fun ix _ => L.length - (intOf ix).toNat)
  case atStart => exact ⟨0, _, Nat.zero_le _, rfl, OwnG.nil _, fun g e => by simp [Value.ownBlock] at e, BO.out, Kp.rfl⟩
  case round =>
    obtain ⟨k, v, hk, rfl, ho, hg, hb, hn⟩ := hrel
    have htl : (L.take k).length = k := by rw [List.length_take]; omega
    obtain ⟨va, vc, hve, -, -, -, -⟩ := ho.shape
    rw [htl] at hve
    subst hve
    have HTL := Lib.hid htl
    have OI := Lib.hid ho
    have GI := Lib.hid hg
    have BI := Lib.hid hb
    have KI := Lib.hid hn
    have NI := Lib.hid (show Nb w wr from NZ.out.trans (hn.toBelow NZ.out.size (fun g e => by have := HB.out; omega)))
    obtain ⟨m0, m1⟩ := hb.r2
    have hlt2 : B + 1 + 1 < wr.heap.size := hb.lt
    clear ho hg hb hn htl
    by_cases hlt : k < L.length
    · have hR := HR.out.below NI.out
      obtain ⟨b, o, rfl⟩ := hR.addr (by omega)
      obtain ⟨r, hr⟩ : ∃ r, L.getD k dRl = r := ⟨_, rfl⟩
      obtain ⟨c0, c1, c2, c3, c4, c5, c6, c7, c8, c9⟩ := hR.at hlt hr
      have HW := Lib.hid (show WdR r by rw [← hr]; exact hR.wd _ (Rl.mem hlt))
      have HT := Lib.hid (show L.take (k + 1) = L.take k ++ [r] by rw [List.take_add_one, ← hr]; simp [List.getD, hlt])
      have hi : (k : Int) < (L.length : Int) := by omega
      clear hR hr
      obtain ⟨rK, rI, rIM, rS, rSM, rV, rVM, rA, rAM, rN⟩ := r
      simp only at c0 c1 c2 c3 c4 c5 c6 c7 c8 c9
      obtain ⟨y, hy⟩ : ∃ y, y = (wr.alloc (.cells #[.int .i64 rK, .int .u32 rI, .int .u32 rIM, .int .u8 rS, .int .u8 rSM, .int .u8 rV, .int .u8 rVM, .int .u32 rA, .int .u32 rAM, .bool rN] 44)).alloc (.cells #[.int .i64 rK, .int .u32 rI, .int .u32 rIM, .int .u8 rS, .int .u8 rSM, .int .u8 rV, .int .u8 rVM, .int .u32 rA, .int .u32 rAM, .bool rN] 42) := ⟨_, rfl⟩
      have NY := Lib.hid (show Nb wr y by rw [hy]; exact (Nb.rfl.al _).al _)
      have BL := Lib.hid (show Blk y (wr.heap.size + 1) #[.int .i64 rK, .int .u32 rI, .int .u32 rIM, .int .u8 rS, .int .u8 rSM, .int .u8 rV, .int .u8 rVM, .int .u32 rA, .int .u32 rAM, .bool rN] 42 by
        rw [hy]
        have := Blk.new (wr.alloc (.cells #[.int .i64 rK, .int .u32 rI, .int .u32 rIM, .int .u8 rS, .int .u8 rSM, .int .u8 rV, .int .u8 rVM, .int .u32 rA, .int .u32 rAM, .bool rN] 44)) #[.int .i64 rK, .int .u32 rI, .int .u32 rIM, .int .u8 rS, .int .u8 rSM, .int .u8 rV, .int .u8 rVM, .int .u32 rA, .int .u32 rAM, .bool rN] 42
        rwa [World.size_alloc] at this)
      have HY := Lib.hid hy
      clear hy
      go_wp2_with (at_builtin; rw [← HY.out]; refine wpList_appG _ rfl (.tmp 17) (.tmp 19) rfl (.slice va k vc) (L.take k) (by rfl) (OI.out.nb NY.out) (some ⟨wr.heap.size + 1, 0, none⟩) 1 1 [⟨rK, rI, rIM, rS, rSM, rV, rVM, rA, rAM, rN⟩] rfl rfl (Rls.lit HW.out BL.out) (fun h => by cases h) (by rw [HTL.out, List.length_singleton]; omega) ?_; intro v7 w7 ho7 hk7 hg7; obtain ⟨va7, vc7, hv7, -, -, -, -⟩ := ho7.shape; rw [List.length_append, HTL.out, List.length_singleton] at hv7; subst hv7; have O7 := Lib.hid ho7; have K7 := Lib.hid hk7; have G7 := Lib.hid hg7; have B7 := Lib.hid ((BI.out.nb NY.out).keep hk7 (fun e => by have := GI.out _ e; have := hBz; omega)); have m7 := B7.out.cell 0; have f7 := B7.out.frozen 0; have hlt7 : B + 1 + 1 < w7.heap.size := B7.out.lt; clear ho7 hk7 hg7)
      have s2 : z1.heap.size ≤ wr.heap.size := KI.out.size
      have sy : wr.heap.size ≤ y.heap.size := NY.out.size
      have K8 := Lib.hid (show Kp (fun b => b = B + 1 + 1) z1 (w7.setCell ⟨B + 1 + 1, 0, none⟩ (.slice va7 (k + 1) vc7)) from
        (KI.out.tr ((Kp.ofNb (F := fun b => Value.ownBlock (.slice va k vc) = some b) NY.out).tr K7.out (fun g e => .inl e)) (fun g e => .inr (GI.out g e))).tr (Kp.set (F := fun b => b = B + 1 + 1) rfl) (fun _ e => .inl e))
      have B8 := Lib.hid (B7.out.set 0 (.slice va7 (k + 1) vc7))
      have O8 := Lib.hid (O7.out.keep (Kp.set (F := fun b => b = B + 1 + 1) (p := ⟨B + 1 + 1, 0, none⟩) (u := .slice va7 (k + 1) vc7) rfl) (fun g e q => by
        rcases G7.out g e with h1 | h1
        · have := GI.out g h1; have := hBz; omega
        · have := hBz; omega))
      go_roundw
      case rel => exact ⟨k + 1, _, by omega, by go_num, by rw [HT.out]; exact O8.out, fun g e => by
        rcases G7.out g e with h1 | h1
        · exact GI.out g h1
        · omega, B8.out, K8.out⟩
      case measure => simp [intOf]; omega
    · obtain rfl : k = L.length := by omega
      have X1 := Lib.hid (BX.out.keep KI.out (by omega))
      go_wp2_with (refine wpList_store_row (by rfl) _ _ _ (by rfl) _ _ (by rfl) (by rfl) _ _ X1.out (by kernel_rfl) (by rfl) (by simp [Value.oneCell']) ?_)
      have hb := Blk.rowF X1.out #[.slice va L.length vc, .bool el]
      have kq := Kp.rowF wr (B + 1) #[.slice va L.length vc, .bool el]
      change bodyPost _ _ _ _ _ (World.setRow wr (B + 1) #[.slice va L.length vc, .bool el])
      generalize World.setRow wr (B + 1) #[.slice va L.length vc, .bool el] = WW at hb kq ⊢
      obtain ⟨q0, q1⟩ := hb.r2
      refine bodyPost_ret (v := .agg #[.slice va L.length vc, .bool el]) (by simp [results, Tryd.results22, go_sem, q0, q1]) rfl ?_
      refine ⟨⟨va, vc, rfl, ?_, fun g e => Nat.le_trans NZ.out.size (GI.out g e)⟩, NI.out.trans (kq.toBelow NI.out.size (fun k hk => by have := HB.out; omega))⟩
      have hO := OI.out
      rw [List.take_length] at hO
      exact hO.keep kq (fun g e q => by have := GI.out g e; have := hBz; omega)
end Go.Proofs.YtaohmgklhecjbaaDoor
