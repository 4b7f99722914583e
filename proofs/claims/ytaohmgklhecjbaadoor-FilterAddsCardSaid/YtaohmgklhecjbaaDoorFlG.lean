
/- The document's Least. No conditions. -/
import Derived.Test.YtaohmgklhecjbaaDoorFlF
import Derived.Test.YtaohmgklhecjbaaDoorFlE
namespace Go.Proofs.YtaohmgklhecjbaaDoor
set_option linter.unusedVariables false
set_option linter.unusedSimpArgs false
open Go.RowKit Go.Sort

/-- What the document's Least answers. -/
def LeastG (w : World) (L : List Rl) (el : Bool) (e : Ending) (w' : World) : Prop := ∃ (M : List Rl) (a : Option Addr) (c : Nat), M = (if okB L then leastR L el else []) ∧ e = .returned (.tuple #[.agg #[.slice a M.length c, .bool (okB L && el)], .int .i64 (bkE L : Nat)]) ∧ OwnG w' (.slice a M.length c) M ∧ ∀ g, Value.ownBlock (.slice a M.length c) = some g → w.heap.size ≤ g
def lenC : Option Value → Nat
  | some (.slice _ n _) => n
  | _ => 0
theorem take_snoc (L : List Rl) {k : Nat} (h : k < L.length) : L.take (k + 1) = L.take k ++ [L.getD k dRl] := by
  rw [List.take_add_one]
  simp [List.getD, h]

set_option maxHeartbeats 3200000 in
set_option maxRecDepth 100000 in
theorem refleast15_any (L : List Rl) (bo : Option Addr) (bc : Nat) (el : Bool) (w : World) (h : Rls w bo bc L) :
    Calls Tryd.prog 20 #[.agg #[.slice bo L.length bc, .bool el]] w fun e w' => LeastG w L el e w' ∧ Nb w w' := by
  have hL := h.len
  have hbc := h.hcap
  have HR := Lib.hid h
  have HC := Lib.hid (fun w' (n : Nb w w') => refcheck15_any L bo bc el w' (h.below n))
  obtain ⟨z1, hz1⟩ : ∃ z1, z1 = (w.alloc (.cells #[.slice bo L.length bc, .bool el] 24)).alloc (.cells #[.slice none 0 0, .bool false] 24) := ⟨_, rfl⟩
  obtain ⟨B, hB⟩ : ∃ B, B = w.heap.size := ⟨_, rfl⟩
  have NZ := Lib.hid (show Nb w z1 by rw [hz1]; exact (Nb.rfl.al _).al _)
  have BB := Lib.hid (show Blk z1 B #[.slice bo L.length bc, .bool el] 24 by rw [hz1, hB]; exact (Blk.new w _ _).nb (Nb.rfl.al _))
  have BX := Lib.hid (show Blk z1 (B + 1) #[.slice none 0 0, .bool false] 24 by
    rw [hz1, hB]
    have := Blk.new (w.alloc (.cells #[.slice bo L.length bc, .bool el] 24)) #[.slice none 0 0, .bool false] 24
    rwa [World.size_alloc] at this)
  have HB := Lib.hid hB
  clear h
  cases hb : okB L with
  | false =>
    rw [show bkE L = 2 by simp [bkE, hb]] at HC
    have HQ := Lib.hid hb
    clear hb
    go_enter Tryd.func20, Tryd.ntmps20
    go_wp2_with fail
    rw [← hz1, ← hB]
    clear hz1 hB
    refine (HC.out _ NZ.out).mono ?_
    rintro e w1 ⟨rfl, n1⟩
    have X1 := Lib.hid (BX.out.nb n1)
    have N1 := Lib.hid (NZ.out.tr n1)
    clear n1
    go_wp2_with (refine wpList_store_row (by rfl) _ _ _ (by rfl) _ _ (by rfl) (by rfl) _ _ X1.out (by kernel_rfl) (by rfl) (by simp [Value.oneCell']) ?_)
    have hb := Blk.rowF X1.out #[.slice none 0 0, .bool false]
    have kq := Kp.rowF w1 (B + 1) #[.slice none 0 0, .bool false]
    change bodyPost _ _ _ _ _ (World.setRow w1 (B + 1) #[.slice none 0 0, .bool false])
    generalize World.setRow w1 (B + 1) #[.slice none 0 0, .bool false] = WW at hb kq ⊢
    obtain ⟨e0, e1⟩ := hb.r2
    refine bodyPost_ret (v := .tuple #[.agg #[.slice none 0 0, .bool false], .int .i64 2]) (by simp [results, Tryd.results20, go_sem, e0, e1]) rfl ?_
    refine ⟨⟨[], none, 0, by rw [HQ.out]; rfl, by rw [HQ.out, show bkE L = 2 by simp [bkE, HQ.out]]; rfl, OwnG.nil _, fun g e => by simp [Value.ownBlock] at e⟩, N1.out.trans (kq.toBelow N1.out.size (fun k hk => by have := HB.out; omega))⟩
  | true =>
    rw [show bkE L = 0 by simp [bkE, hb]] at HC
    have HQ := Lib.hid hb
    have h32 := ((okB_iff L).1 hb).1
    clear hb
    go_enter Tryd.func20, Tryd.ntmps20
    go_wp2_with fail
    rw [← hz1, ← hB]
    clear hz1 hB
    refine (HC.out _ NZ.out).mono ?_
    rintro e w0 ⟨rfl, n1⟩
    obtain ⟨w1, hw1⟩ : ∃ w1, w1 = w0.alloc (.cells #[.slice none 0 0, .bool el] 24) := ⟨_, rfl⟩
    obtain ⟨C, hC⟩ : ∃ C, C = w0.heap.size := ⟨_, rfl⟩
    have n2 : Nb z1 w1 := by rw [hw1]; exact n1.al _
    have B1 := Lib.hid (BB.out.nb n2)
    have X1 := Lib.hid (BX.out.nb n2)
    have NZ1 := Lib.hid (NZ.out.tr n2)
    have O1 := Lib.hid (show Blk w1 C #[.slice none 0 0, .bool el] 24 by rw [hw1, hC]; exact Blk.new _ _ _)
    have hBC : B + 1 < C := by rw [hC]; exact (BX.out.nb n1).lt
    have hBw : C < w1.heap.size := O1.out.lt
    obtain ⟨e0, e1⟩ := (BB.out.nb n1).r2
    have HW1 := Lib.hid hw1
    have hB0 : B < w0.heap.size := (BB.out.nb n1).lt
    clear n1 n2
    go_wp2
    rw [← hw1, ← hC]
    clear hw1 hC e0 e1
    go_loopw [23] (fun ix wr => ∃ (k : Nat) (v : Value), k ≤ L.length ∧ ix = .int .i64 k ∧ OwnG wr v (dedup (L.take k)) ∧ (∀ g, v.ownBlock = some g → w1.heap.size ≤ g) ∧ Blk wr C #[v, .bool el] 24 ∧ Kp (fun b => b = C) w1 wr) (fun ix _ => L.length - (intOf ix).toNat)
    case atStart => exact ⟨0, _, Nat.zero_le _, rfl, OwnG.nil _, fun g e => by simp [Value.ownBlock] at e, O1.out, Kp.rfl⟩
    case round =>
      obtain ⟨k, v, hk, rfl, ho, hg, hb, hn⟩ := hrel
      obtain ⟨M, hM⟩ : ∃ M, M = dedup (L.take k) := ⟨_, rfl⟩
      rw [← hM] at ho
      have HM := Lib.hid hM
      obtain ⟨va, vc, hve, hva, hvc, hvm, -⟩ := ho.shape
      subst hve
      have HVA := Lib.hid hva
      have OI := Lib.hid ho
      have GI := Lib.hid hg
      have BI := Lib.hid hb
      have KI := Lib.hid hn
      have NI := Lib.hid (show Nb w wr from NZ1.out.trans (hn.toBelow NZ1.out.size (fun g e => by have := HB.out; omega)))
      have hMk : M.length ≤ k := by
        rw [hM]
        exact Nat.le_trans (dedup_len _) (by rw [List.length_take]; omega)
      have hltC : C < wr.heap.size := hb.lt
      obtain ⟨e0, e1⟩ := (B1.out.keep hn (by omega)).r2
      have hltB : B < wr.heap.size := by omega
      clear ho hg hb hn hM hva
      by_cases hlt : k < L.length
      · have hR := HR.out.below NI.out
        obtain ⟨b, o, rfl⟩ := hR.addr (by omega)
        obtain ⟨r, hr⟩ : ∃ r, L.getD k dRl = r := ⟨_, rfl⟩
        obtain ⟨c0, c1, c2, c3, c4, c5, c6, c7, c8, c9⟩ := hR.at hlt hr
        have HW := Lib.hid (show WdR r by rw [← hr]; exact hR.wd _ (Rl.mem hlt))
        have HT := Lib.hid (show dedup (L.take (k + 1)) = dd M r by rw [take_snoc L hlt, hr, dedup_snoc, HM.out])
        have HTW := Lib.hid (show M.any (twR r) = (L.take k).any (twR r) by rw [HM.out]; exact dedup_any _ r)
        have HEQ := Lib.hid (fun (s : Rl) w => equalG { s with N := r.N } r w)
        have HES := Lib.hid (fun s : Rl => show eqR { s with N := r.N } r = twR r s by rw [twR_symm r s]; simp [eqR, twR])
        have hi : (k : Int) < (L.length : Int) := by omega
        have hcut := fun w => run_cutG (some ⟨b, o, none⟩) L.length bc k (by omega) w
        clear hR hr
        obtain ⟨p, hp⟩ : ∃ p, p = twR r := ⟨_, rfl⟩
        rw [← hp] at HTW HES
        have HD := Lib.hid (show dd M r = if M.any p then M else M ++ [r] by rw [hp]; rfl)
        clear hp
        obtain ⟨rK, rI, rIM, rS, rSM, rV, rVM, rA, rAM, rN⟩ := r
        simp only at c0 c1 c2 c3 c4 c5 c6 c7 c8 c9
        obtain ⟨y, hy⟩ : ∃ y, y = wr.alloc (.cells #[.int .i64 rK, .int .u32 rI, .int .u32 rIM, .int .u8 rS, .int .u8 rSM, .int .u8 rV, .int .u8 rVM, .int .u32 rA, .int .u32 rAM, .bool rN] 42) := ⟨_, rfl⟩
        obtain ⟨R7, hR7⟩ : ∃ R7, R7 = wr.heap.size := ⟨_, rfl⟩
        have NY := Lib.hid (show Nb wr y by rw [hy]; exact Nb.rfl.al _)
        have BL := Lib.hid (show Blk y R7 #[.int .i64 rK, .int .u32 rI, .int .u32 rIM, .int .u8 rS, .int .u8 rSM, .int .u8 rV, .int .u8 rVM, .int .u32 rA, .int .u32 rAM, .bool rN] 42 by rw [hy, hR7]; exact Blk.new _ _ _)
        have HR7 := Lib.hid hR7
        have NWY := Lib.hid (show Nb w y from NI.out.tr NY.out)
        have KY := Lib.hid (show Kp (fun b => b = C) w1 y from KI.out.tr (Kp.ofNb (F := fun b => b = C) NY.out) (fun _ e => .inl e))
        have OY := Lib.hid (OI.out.nb NY.out)
        have CY := Lib.hid (BI.out.nb NY.out)
        have hCy : C < y.heap.size := CY.out.lt
        have syw : w1.heap.size ≤ y.heap.size := KY.out.size
        have hRy : wr.heap.size < y.heap.size := by have := BL.out.lt; rw [HR7.out] at this; exact this
        have hMy : ∀ g, Value.ownBlock (.slice va M.length vc) = some g → g < wr.heap.size := fun g e => OI.out.lt e
        have HMY := Lib.hid (show ∀ g, Value.ownBlock (.slice va M.length vc) = some g → g < R7 from fun g e => by rw [HR7.out]; exact hMy g e)
        go_wp2
        rw [← hy, ← hR7]
        clear hy hR7 c0 c1 c2 c3 c4 c5 c6 c7 c8 c9 e0 e1 hMy hRy OI BI KI NI NY HR7 HM
        go_loopw [8, 33] (fun tv ix w2 => ∃ j : Nat, j ≤ k ∧ ix = .int .i64 j ∧ tv = .bool ((L.take j).any p) ∧ Nb y w2) (fun _ ix _ => k - (intOf ix).toNat)
        case atStart => exact ⟨0, Nat.zero_le _, rfl, rfl, Nb.rfl⟩
        case round =>
          obtain ⟨j, hj, rfl, rfl, hn⟩ := hrel
          have NJ := Lib.hid hn
          have NW2 := Lib.hid (NWY.out.tr hn)
          obtain ⟨c0, c1, c2, c3, c4, c5, c6, c7, c8, c9⟩ := (BL.out.nb hn).r10
          have hR7w : R7 < wr.heap.size := (BL.out.nb hn).lt
          have hCw : C < wr.heap.size := (CY.out.nb hn).lt
          clear hn
          by_cases hjk : j < k
          · have hR := HR.out.below NW2.out
            obtain ⟨s, hs⟩ : ∃ s, L.getD j dRl = s := ⟨_, rfl⟩
            obtain ⟨d0, d1, d2, d3, d4, d5, d6, d7, d8, d9⟩ := hR.at (show j < L.length by omega) hs
            have HSN := Lib.hid (show (L.take (j + 1)).any p = ((L.take j).any p || p s) by rw [take_snoc L (by omega), List.any_append, hs]; simp)
            have hq := HEQ.out s
            rw [HES.out s] at hq
            have hji : (j : Int) < (k : Int) := by omega
            clear hR hs
            generalize p s = ps at *
            obtain ⟨sK, sI, sIM, sS, sSM, sV, sVM, sA, sAM, sN⟩ := s
            simp only [Rl.ca] at hq d0 d1 d2 d3 d4 d5 d6 d7 d8 d9
            cases htt : (L.take j).any p with
            | true =>
              rw [htt] at HSN
              clear htt hq
              go_wp2
              go_roundw
              case rel => exact ⟨j + 1, by omega, by go_num, by rw [HSN.out]; rfl, NJ.out.al _⟩
              case measure => simp [intOf]; omega
            | false =>
              rw [htt] at HSN
              clear htt
              go_wp2
              go_roundw
              case rel => exact ⟨j + 1, by omega, by go_num, by rw [HSN.out]; rfl, NJ.out.al _⟩
              case measure => simp [intOf]; omega
          · obtain rfl : j = k := by omega
            rw [← HTW.out]
            have CW := Lib.hid (CY.out.nb NJ.out)
            have OW := Lib.hid (OY.out.nb NJ.out)
            have KW := Lib.hid (show Kp (fun b => b = C) w1 wr from KY.out.tr (Kp.ofNb (F := fun b => b = C) NJ.out) (fun _ e => .inl e))
            cases hmp : M.any p with
            | true =>
              rw [hmp, if_pos rfl] at HD
              clear hmp
              go_wp2
              go_roundw
              case rel => exact ⟨j + 1, _, by omega, by go_num, by rw [HT.out, HD.out]; exact OW.out, GI.out, CW.out, KW.out⟩
              case measure => simp [intOf]; omega
            | false =>
              rw [hmp, if_neg (by simp)] at HD
              obtain ⟨m0, m1⟩ := CW.out.r2
              have swr : y.heap.size ≤ wr.heap.size := NJ.out.size
              obtain ⟨y3, hy3⟩ : ∃ y3, y3 = wr.alloc (.cells #[.int .i64 rK, .int .u32 rI, .int .u32 rIM, .int .u8 rS, .int .u8 rSM, .int .u8 rV, .int .u8 rVM, .int .u32 rA, .int .u32 rAM, .bool rN] 42) := ⟨_, rfl⟩
              have N3 := Lib.hid (show Nb wr y3 by rw [hy3]; exact Nb.rfl.al _)
              have BL3 := Lib.hid (show Blk y3 wr.heap.size #[.int .i64 rK, .int .u32 rI, .int .u32 rIM, .int .u8 rS, .int .u8 rSM, .int .u8 rV, .int .u8 rVM, .int .u32 rA, .int .u32 rAM, .bool rN] 42 by rw [hy3]; exact Blk.new _ _ _)
              have HY3 := Lib.hid hy3
              clear hmp hy3
              go_wp2_with (at_builtin; rw [← HY3.out]; refine wpList_appG _ rfl (.tmp 50) (.tmp 52) rfl (.slice va M.length vc) M (by rfl) (OW.out.nb N3.out) (some ⟨wr.heap.size, 0, none⟩) 1 1 [⟨rK, rI, rIM, rS, rSM, rV, rVM, rA, rAM, rN⟩] rfl rfl (Rls.lit HW.out BL3.out) (fun h => by cases h) (by rw [List.length_singleton]; omega) ?_; intro v7 w7 ho7 hk7 hg7; obtain ⟨va7, vc7, hv7, -, -, -, -⟩ := ho7.shape; rw [List.length_append, List.length_singleton] at hv7; subst hv7; have O7 := Lib.hid ho7; have K7 := Lib.hid hk7; have G7 := Lib.hid hg7; have B7 := Lib.hid ((CW.out.nb N3.out).keep hk7 (fun e => by have := GI.out _ e; have := hBw; omega)); have m7 := B7.out.cell 0; have f7 := B7.out.frozen 0; have hlt7 : C < w7.heap.size := B7.out.lt; clear ho7 hk7 hg7)
              have sy3 : wr.heap.size ≤ y3.heap.size := N3.out.size
              have K8 := Lib.hid (show Kp (fun b => b = C) w1 (w7.setCell ⟨C, 0, none⟩ (.slice va7 (M.length + 1) vc7)) from
                (KW.out.tr ((Kp.ofNb (F := fun b => Value.ownBlock (.slice va M.length vc) = some b) N3.out).tr K7.out (fun g e => .inl e)) (fun g e => .inr (GI.out g e))).tr (Kp.set (F := fun b => b = C) rfl) (fun _ e => .inl e))
              have B8 := Lib.hid (B7.out.set 0 (.slice va7 (M.length + 1) vc7))
              have O8 := Lib.hid (O7.out.keep (Kp.set (F := fun b => b = C) (p := ⟨C, 0, none⟩) (u := .slice va7 (M.length + 1) vc7) rfl) (fun g e q => by
                rcases G7.out g e with h1 | h1
                · have := GI.out g h1; have := hBw; omega
                · have := hBw; omega))
              go_roundw
              case rel => exact ⟨j + 1, _, by omega, by go_num, by rw [HT.out, HD.out]; exact O8.out, fun g e => by
                rcases G7.out g e with h1 | h1
                · exact GI.out g h1
                · omega, B8.out, K8.out⟩
              case measure => simp [intOf]; omega
      · obtain rfl : k = L.length := by omega
        have HM2 := Lib.hid (show M = dedup L by rw [HM.out, List.take_length])
        obtain ⟨zL, hzL⟩ : ∃ zL, zL = wr := ⟨_, rfl⟩
        have KZ := Lib.hid (show Kp (fun b => b = C) w1 zL by rw [hzL]; exact KI.out)
        have OZ := Lib.hid (show OwnG zL (.slice va M.length vc) M by rw [hzL]; exact OI.out)
        have CZ := Lib.hid (show Blk zL C #[.slice va M.length vc, .bool el] 24 by rw [hzL]; exact BI.out)
        clear OI BI KI NI hlt hltC hltB e0 e1
        go_wp2_with fail
        go_loopw [] (fun w2 => ∃ j : Nat, j ≤ M.length ∧ cutN el M j = cutN el M M.length ∧ OwnG w2 (.slice va j vc) (M.take j) ∧ Blk w2 C #[.slice va j vc, .bool el] 24 ∧ Kp (fun b => b = C) zL w2) (fun w2 => lenC (w2.cell? ⟨C, 0, none⟩))
        case atStart => exact ⟨M.length, Nat.le_refl _, rfl, by rw [List.take_length, ← hzL]; exact OZ.out, by rw [← hzL]; exact CZ.out, by rw [hzL]; exact Kp.rfl⟩
        case round =>
          obtain ⟨j, hj, hct, ho, hb, hn⟩ := hrel
          have HCU := Lib.hid hct
          have OJ := Lib.hid ho
          have CJ := Lib.hid hb
          have KJ := Lib.hid (show Kp (fun b => b = C) zL wr from hn)
          have KW := Lib.hid (show Kp (fun b => b = C) w1 wr from KZ.out.tr hn (fun _ e => .inl e))
          have NJ := Lib.hid (show Nb w wr from NZ1.out.trans (KW.out.toBelow NZ1.out.size (fun g e => by have := HB.out; omega)))
          have XJ := Lib.hid (X1.out.keep KW.out (by omega))
          obtain ⟨p0, p1⟩ := (B1.out.keep KW.out (by omega)).r2
          obtain ⟨m0, m1⟩ := hb.r2
          have mf := hb.frozen 0
          have hjc : j ≤ vc := by omega
          have hv63 : vc ≤ 9223372036854775807 := by unfold maxLen at hvm; omega
          have HLE := Lib.hid (show ∀ g, Value.ownBlock (.slice va j vc) = some g → w1.heap.size ≤ g from fun g e => by cases va <;> exact GI.out g e)
          clear hct ho hb hn hzL OZ CZ HC NZ BB BX hL HM hMk hk
          by_cases hz : j = 0
          · subst hz
            have HCT := Lib.hid (show 0 = cutN el M M.length from HCU.out)
            go_wp2_with fail
            go_quiet (fail)
            obtain ⟨wq, hwq⟩ : ∃ wq, wq = wr.drewN nq := ⟨_, rfl⟩
            have NJQ := Lib.hid (show Nb wr wq by rw [hwq]; exact Nb.drewN _ _)
            have OQ := Lib.hid (OJ.out.nb NJQ.out)
            have BO := Lib.hid (CJ.out.nb NJQ.out)
            have X2 := Lib.hid (XJ.out.nb NJQ.out)
            have NQ := Lib.hid (NJ.out.tr NJQ.out)
            rw [← hwq]
            clear hwq
            clear p0 p1 m0 m1 mf
            obtain ⟨q2, q3⟩ := BO.out.r2
            go_wp2_with (refine wpList_store_row (by rfl) _ _ _ (by rfl) _ _ (by rfl) (by rfl) _ _ X2.out (by kernel_rfl) (by rfl) (by simp [Value.oneCell']) ?_)
            have hb := Blk.rowF X2.out #[.slice va 0 vc, .bool el]
            have kq := Kp.rowF wq (B + 1) #[.slice va 0 vc, .bool el]
            change bodyPost _ _ _ _ _ (World.setRow wq (B + 1) #[.slice va 0 vc, .bool el])
            generalize World.setRow wq (B + 1) #[.slice va 0 vc, .bool el] = WW at hb kq ⊢
            obtain ⟨q0, q1⟩ := hb.r2
            refine bodyPost_ret (v := .tuple #[.agg #[.slice va 0 vc, .bool el], .int .i64 0]) (by simp [results, Tryd.results20, go_sem, q0, q1]) rfl ?_
            have hlen : (leastR L el).length = 0 := by rw [show leastR L el = strip el M by rw [HM2.out]; rfl, strip_len, ← HCT.out]
            refine ⟨⟨leastR L el, va, vc, by rw [HQ.out]; rfl, by rw [hlen, HQ.out, show bkE L = 0 by simp [bkE, HQ.out]]; rfl, ?_, fun gg e => ?_⟩, NQ.out.trans (kq.toBelow NQ.out.size (fun k hk => by have := HB.out; omega))⟩
            · rw [hlen, show leastR L el = M.take 0 by rw [show leastR L el = strip el M by rw [HM2.out]; rfl]; unfold strip; rw [← HCT.out]]
              exact OQ.out.keep kq (fun gg e q => by have := HLE.out gg e; have := hBw; omega)
            · rw [hlen] at e
              exact Nat.le_trans NZ1.out.size (HLE.out gg e)
          · obtain ⟨g, rfl⟩ := HVA.out (by omega)
            obtain ⟨i, hi⟩ : ∃ i, j = i + 1 := ⟨j - 1, by omega⟩
            obtain ⟨rN, hrN⟩ : ∃ rN, (M.getD i dRl).N = rN := ⟨_, rfl⟩
            have hrw := OJ.out.rw.2
            have hlt : i < (M.take j).length := by rw [List.length_take]; omega
            have c9 := (hrw.cell (j := i) hlt (i := 9) (u := .bool rN) (by
              rw [show (M.take j).getD i dRl = M.getD i dRl by simp [List.getD, show i < j by omega]]
              rw [← hrN]; rfl)).1
            have ej : IntKind.i64.wrap ((j : Int) - 1) = (i : Int) := by rw [IntKind.wrap_i64]; omega
            have ei : IntKind.i64.wrap (i : Int) = (i : Int) := by rw [IntKind.wrap_i64]; omega
            have hj0 : (0 : Int) < (j : Int) := by omega
            have hj0n : 0 < j := by omega
            have hi0 : (0 : Int) ≤ (i : Int) := by omega
            have hij : (i : Int) < (j : Int) := by omega
            have hijn : i < j := by omega
            have hcut := fun w => run_cutG (some ⟨g, 0, none⟩) j vc i (by omega) w
            have HJI := Lib.hid hi
            have HCN := Lib.hid (show cutN el M j = if rN == el then cutN el M i else j by
              rw [hi]
              show (if (M.getD i dRl).N == el then _ else _) = _
              rw [hrN])
            clear hrw hi hlt hz hrN
            cases dq : (rN == el) with
            | true =>
              rw [dq, if_pos rfl] at HCN
              go_wp2_with fail
              go_quiet (fail)
              obtain ⟨wq, hwq⟩ : ∃ wq, wq = wr.drewN nq := ⟨_, rfl⟩
              have NJQ := Lib.hid (show Nb wr wq by rw [hwq]; exact Nb.drewN _ _)
              have OQ := Lib.hid (OJ.out.nb NJQ.out)
              have BO := Lib.hid (CJ.out.nb NJQ.out)
              have X2 := Lib.hid (XJ.out.nb NJQ.out)
              have NQ := Lib.hid (NJ.out.tr NJQ.out)
              rw [← hwq]
              clear hwq
              have KQ := Lib.hid (show Kp (fun b => b = C) zL wq from KJ.out.tr (Kp.ofNb (F := fun b => b = C) NJQ.out) (fun _ e => .inl e))
              clear p0 p1 m0 m1 mf c9
              obtain ⟨m0, m1⟩ := BO.out.r2
              have mf := BO.out.frozen 0
              go_wp2
              go_roundw
              case rel => exact ⟨i, by have := HJI.out; omega, by rw [← HCN.out]; exact HCU.out, by
                have h1 := (OQ.out.rw.2.less i).own
                rw [List.take_take, show min i j = i by omega, List.length_take, show min i M.length = i by omega] at h1
                exact h1.keep (Kp.set (F := fun b => b = C) (p := ⟨C, 0, none⟩) rfl) (fun gg e q => by
                  have := HLE.out gg e
                  omega), BO.out.set 0 _, KQ.out.tr (Kp.set (F := fun b => b = C) (p := ⟨C, 0, none⟩) rfl) (fun _ e => .inl e)⟩
              case measure =>
                rw [(BO.out.set 0 (.slice (some ⟨g, 0, none⟩) i vc)).cell 0, CJ.out.cell 0]
                show i < j
                omega
            | false =>
              rw [dq] at HCN
              have HCT := Lib.hid (show j = cutN el M M.length by rw [← HCU.out, HCN.out]; rfl)
              go_wp2_with fail
              go_quiet (fail)
              obtain ⟨wq, hwq⟩ : ∃ wq, wq = wr.drewN nq := ⟨_, rfl⟩
              have NJQ := Lib.hid (show Nb wr wq by rw [hwq]; exact Nb.drewN _ _)
              have OQ := Lib.hid (OJ.out.nb NJQ.out)
              have BO := Lib.hid (CJ.out.nb NJQ.out)
              have X2 := Lib.hid (XJ.out.nb NJQ.out)
              have NQ := Lib.hid (NJ.out.tr NJQ.out)
              rw [← hwq]
              clear hwq
              clear p0 p1 m0 m1 mf c9
              obtain ⟨q2, q3⟩ := BO.out.r2
              go_wp2_with (refine wpList_store_row (by rfl) _ _ _ (by rfl) _ _ (by rfl) (by rfl) _ _ X2.out (by kernel_rfl) (by rfl) (by simp [Value.oneCell']) ?_)
              have hb := Blk.rowF X2.out #[.slice (some ⟨g, 0, none⟩) j vc, .bool el]
              have kq := Kp.rowF wq (B + 1) #[.slice (some ⟨g, 0, none⟩) j vc, .bool el]
              change bodyPost _ _ _ _ _ (World.setRow wq (B + 1) #[.slice (some ⟨g, 0, none⟩) j vc, .bool el])
              generalize World.setRow wq (B + 1) #[.slice (some ⟨g, 0, none⟩) j vc, .bool el] = WW at hb kq ⊢
              obtain ⟨q0, q1⟩ := hb.r2
              refine bodyPost_ret (v := .tuple #[.agg #[.slice (some ⟨g, 0, none⟩) j vc, .bool el], .int .i64 0]) (by simp [results, Tryd.results20, go_sem, q0, q1]) rfl ?_
              have hlen : (leastR L el).length = j := by rw [show leastR L el = strip el M by rw [HM2.out]; rfl, strip_len, ← HCT.out]
              refine ⟨⟨leastR L el, (some ⟨g, 0, none⟩), vc, by rw [HQ.out]; rfl, by rw [hlen, HQ.out, show bkE L = 0 by simp [bkE, HQ.out]]; rfl, ?_, fun gg e => ?_⟩, NQ.out.trans (kq.toBelow NQ.out.size (fun k hk => by have := HB.out; omega))⟩
              · rw [hlen, show leastR L el = M.take j by rw [show leastR L el = strip el M by rw [HM2.out]; rfl]; unfold strip; rw [← HCT.out]]
                exact OQ.out.keep kq (fun gg e q => by have := HLE.out gg e; have := hBw; omega)
              · rw [hlen] at e
                exact Nat.le_trans NZ1.out.size (HLE.out gg e)
end Go.Proofs.YtaohmgklhecjbaaDoor
