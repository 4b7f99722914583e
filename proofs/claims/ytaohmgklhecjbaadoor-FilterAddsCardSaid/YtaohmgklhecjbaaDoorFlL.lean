
/- The program's Least. No conditions. -/
import Derived.Test.YtaohmgklhecjbaaDoorFlT
import Derived.Great.BuildSlice
namespace Go.Proofs.YtaohmgklhecjbaaDoor
set_option linter.unusedVariables false
set_option linter.unusedSimpArgs false
open Go.RowKit Go.Sort

theorem Blk.rowF {w : World} {R : Nat} {cs : Array Value} {t : TypeId} (h : Blk w R cs t) (cs' : Array Value) : Blk (w.setRow R cs') R cs' t := setRow_heap w R cs cs' t (0, 0) h
theorem Kp.rowF (w : World) (R : Nat) (cs' : Array Value) : Kp (fun b => b = R) w (w.setRow R cs') :=
  ⟨setRow_os w R cs', setRow_tape w R cs', setRow_output w R cs', by rw [setRow_size]; exact Nat.le_refl _, fun k _ hn => setRow_other w R k cs' hn⟩
theorem run_cutR (a : Option Addr) (len cap k : Nat) (hk : k ≤ cap) (w : World) :
    (Instr.sliceAt 30 (.slice a len cap) none (some (.int .i64 (k : Int))) none).run Tryd.prog w = .ok (.slice a k cap) w := by
  have ht : Tryd.prog.underlying 30 = some (.slice (Tryd.prog.elem 30)) := by kernel_rfl
  rw [run_sliceAt_slice _ _ _ _ _ _ ht, run_slice_h w _ a len cap ht .i64 (k : Int) (by omega) (by omega), show Tryd.prog.elem 30 = 44 from by kernel_rfl, show (sizeOf 44).run Tryd.prog w = .ok 10 w from by kernel_rfl]
  simp only [Result.andThen, sliced, Nat.zero_mul, Nat.sub_zero, Int.toNat_natCast]
  cases a with
  | none => simp
  | some a => simp [Addr.add]
theorem run_cutG (a : Option Addr) (len cap k : Nat) (hk : k ≤ cap) (w : World) :
    (Instr.sliceAt 22 (.slice a len cap) none (some (.int .i64 (k : Int))) none).run Tryd.prog w = .ok (.slice a k cap) w := by
  have ht : Tryd.prog.underlying 22 = some (.slice (Tryd.prog.elem 22)) := by kernel_rfl
  rw [run_sliceAt_slice _ _ _ _ _ _ ht, run_slice_h w _ a len cap ht .i64 (k : Int) (by omega) (by omega), show Tryd.prog.elem 22 = 42 from by kernel_rfl, show (sizeOf 42).run Tryd.prog w = .ok 10 w from by kernel_rfl]
  simp only [Result.andThen, sliced, Nat.zero_mul, Nat.sub_zero, Int.toNat_natCast]
  cases a with
  | none => simp
  | some a => simp [Addr.add]
/-- What Least answers. -/
def LeastR (w : World) (L : List Rl) (el : Bool) (e : Ending) (w' : World) : Prop := ∃ (M : List Rl) (a : Option Addr) (c : Nat), M = (if okB L then leastR L el else []) ∧ e = .returned (.tuple #[.agg #[.slice a M.length c, .bool (okB L && el)], .int .i64 (bkE L : Nat)]) ∧ OwnR w' (.slice a M.length c) M ∧ ∀ g, Value.ownBlock (.slice a M.length c) = some g → w.heap.size ≤ g

set_option maxHeartbeats 3200000 in
set_option maxRecDepth 100000 in
theorem least15_any (L : List Rl) (bo : Option Addr) (bc : Nat) (el : Bool) (w : World) (h : Rls w bo bc L) :
    Calls Tryd.prog 19 #[.agg #[.slice bo L.length bc, .bool el]] w fun e w' => LeastR w L el e w' ∧ Nb w w' := by
  have hL := h.len
  have HR := Lib.hid h
  have HC := Lib.hid (fun w' (n : Nb w w') => check15_any L bo bc el w' (h.below n))
  have hmf : ∀ (fn : Fn) (first cap : Array Value) (w : World), (Instr.makeFunc fn first cap).run Tryd.prog w = .ok (.func fn first cap) w := fun _ _ _ _ => rfl
  obtain ⟨z1, hz1⟩ : ∃ z1, z1 = (w.alloc (.cells #[.slice bo L.length bc, .bool el] 32)).alloc (.cells #[.slice none 0 0, .bool false] 32) := ⟨_, rfl⟩
  obtain ⟨B, hB⟩ : ∃ B, B = w.heap.size := ⟨_, rfl⟩
  have NZ := Lib.hid (show Nb w z1 by rw [hz1]; exact (Nb.rfl.al _).al _)
  have BB := Lib.hid (show Blk z1 B #[.slice bo L.length bc, .bool el] 32 by rw [hz1, hB]; exact (Blk.new w _ _).nb (Nb.rfl.al _))
  have BX := Lib.hid (show Blk z1 (B + 1) #[.slice none 0 0, .bool false] 32 by
    rw [hz1, hB]
    have := Blk.new (w.alloc (.cells #[.slice bo L.length bc, .bool el] 32)) #[.slice none 0 0, .bool false] 32
    rwa [World.size_alloc] at this)
  have HB := Lib.hid hB
  clear h
  cases hb : okB L with
  | false =>
    rw [show bkE L = 2 by simp [bkE, hb]] at HC
    have HQ := Lib.hid hb
    clear hb hmf
    go_enter Tryd.func19, Tryd.ntmps19
    go_wp2_with fail
    rw [← hz1, ← hB]
    clear hz1 hB
    refine (HC.out _ NZ.out).mono ?_
    rintro e w1 ⟨rfl, n1⟩
    have X1 := Lib.hid (BX.out.nb n1)
    have N1 := Lib.hid (NZ.out.tr n1)
    clear n1
    go_wp2_with (refine wpList_store_row (by rfl) _ _ _ (by rfl) _ _ (by rfl) (by rfl) _ _ X1.out (by kernel_rfl) (by rfl) (by simp [Value.oneCell']) ?_)
    have hb := Blk.rowF X1.out #[.slice none 0 0, .bool false]
    have kq := Kp.rowF w1 (B + 1) #[.slice none 0 0, .bool false]
    change bodyPost _ _ _ _ _ (World.setRow w1 (B + 1) #[.slice none 0 0, .bool false])
    generalize World.setRow w1 (B + 1) #[.slice none 0 0, .bool false] = WW at hb kq ⊢
    obtain ⟨e0, e1⟩ := hb.r2
    refine bodyPost_ret (v := .tuple #[.agg #[.slice none 0 0, .bool false], .int .i64 2]) (by simp [results, Tryd.results19, go_sem, e0, e1]) rfl ?_
    refine ⟨⟨[], none, 0, by rw [HQ.out]; rfl, by rw [HQ.out, show bkE L = 2 by simp [bkE, HQ.out]]; rfl, OwnR.nil _, fun g e => by simp [Value.ownBlock] at e⟩, N1.out.trans (kq.toBelow N1.out.size (fun k hk => by have := HB.out; omega))⟩
  | true =>
    rw [show bkE L = 0 by simp [bkE, hb]] at HC
    have HQ := Lib.hid hb
    have h32 := ((okB_iff L).1 hb).1
    clear hb
    go_enter Tryd.func19, Tryd.ntmps19
    go_wp2_with fail
    rw [← hz1, ← hB]
    clear hz1 hB
    refine (HC.out _ NZ.out).mono ?_
    rintro e w1 ⟨rfl, n1⟩
    have B1 := Lib.hid (BB.out.nb n1)
    have X1 := Lib.hid (BX.out.nb n1)
    have N1 := Lib.hid (NZ.out.tr n1)
    have hBw : B + 1 < w1.heap.size := X1.out.lt
    obtain ⟨e0, e1⟩ := B1.out.r2
    clear n1
    go_wp2
    go_loopw [5, 17] (fun v ix wr => ∃ k : Nat, k ≤ L.length ∧ ix = .int .i64 k ∧ OwnR wr v (dedup (L.take k)) ∧ (∀ g, v.ownBlock = some g → w1.heap.size ≤ g) ∧ Nb w1 wr) (fun v ix _ => L.length - (intOf ix).toNat)
    case atStart => exact ⟨0, Nat.zero_le _, rfl, OwnR.nil _, fun g e => by simp [Value.ownBlock] at e, Nb.rfl⟩
    case round =>
      obtain ⟨k, hk, rfl, ho, hg, hn⟩ := hrel
      have GI := Lib.hid hg
      have NI := Lib.hid hn
      obtain ⟨M, hM⟩ : ∃ M, M = dedup (L.take k) := ⟨_, rfl⟩
      rw [← hM] at ho
      have HM := Lib.hid hM
      obtain ⟨va, vc, hve, hva, hvc, hvm, hvn⟩ := ho.shape
      subst hve
      have OI := Lib.hid ho
      have HVN := Lib.hid hvn
      have HVA := Lib.hid hva
      have hMk : M.length ≤ k := by
        rw [hM]
        exact Nat.le_trans (dedup_len _) (by rw [List.length_take]; omega)
      clear ho hg hn hM hvn hva
      by_cases hlt : k < L.length
      · have hR := HR.out.below (N1.out.tr NI.out)
        obtain ⟨b, o, rfl⟩ := hR.addr (by omega)
        obtain ⟨r, hr⟩ : ∃ r, L.getD k dRl = r := ⟨_, rfl⟩
        obtain ⟨c0, c1, c2, c3, c4, c5, c6, c7, c8, c9⟩ := hR.at hlt hr
        have HW := Lib.hid (show WdR r by rw [← hr]; exact hR.wd _ (Rl.mem hlt))
        have HT := Lib.hid (show dedup (L.take (k + 1)) = dd M r by
          have e : L.take (k + 1) = L.take k ++ [r] := by rw [List.take_add_one, ← hr]; simp [List.getD, hlt]
          rw [e, dedup_snoc, HM.out])
        have HF := Lib.hid (fun w' (n : Nb wr w') => containsF_any 29 (.agg r.ca) (twR r) M va vc w' (OI.out.nb n).rls.2 cfTwin (fun x _ w2 _ => twin_any r x w2))
        have hi : (k : Int) < (L.length : Int) := by omega
        clear hR hr
        cases hq : M.any (twR r) with
        | true =>
          rw [hq] at HF
          have HD := Lib.hid (show dd M r = M by unfold dd; rw [if_pos hq])
          obtain ⟨rK, rI, rIM, rS, rSM, rV, rVM, rA, rAM, rN⟩ := r
          simp only [Rl.ca] at HF c0 c1 c2 c3 c4 c5 c6 c7 c8 c9
          clear hq
          go_wp2_with fail
          refine (HF.out _ (Nb.rfl.al _)).mono ?_
          rintro e w3 ⟨rfl, n3⟩
          have N3 := Lib.hid ((Nb.rfl.al _).tr n3 : Nb wr w3)
          clear n3
          go_wp2
          go_roundw
          case rel => exact ⟨k + 1, by omega, by go_num, by rw [HT.out, HD.out]; exact OI.out.nb N3.out, GI.out, NI.out.tr N3.out⟩
          case measure => simp [intOf]; omega
        | false =>
          rw [hq] at HF
          have HD := Lib.hid (show dd M r = M ++ [r] by unfold dd; rw [if_neg (by rw [hq]; simp)])
          obtain ⟨rK, rI, rIM, rS, rSM, rV, rVM, rA, rAM, rN⟩ := r
          simp only [Rl.ca] at HF c0 c1 c2 c3 c4 c5 c6 c7 c8 c9
          have BN := Lib.hid (Blk.new wr #[.int .i64 rK, .int .u32 rI, .int .u32 rIM, .int .u8 rS, .int .u8 rSM, .int .u8 rV, .int .u8 rVM, .int .u32 rA, .int .u32 rAM, .bool rN] 44)
          clear hq
          go_wp2_with fail
          refine (HF.out _ (Nb.rfl.al _)).mono ?_
          rintro e w3 ⟨rfl, n3⟩
          have N3 := Lib.hid ((Nb.rfl.al _).tr n3 : Nb wr w3)
          obtain ⟨f0, f1, f2, f3, f4, f5, f6, f7, f8, f9⟩ := (BN.out.nb n3).r10
          clear n3 c0 c1 c2 c3 c4 c5 c6 c7 c8 c9
          have OW := Lib.hid (OI.out.nb (N3.out.al (.cells #[.int .i64 rK, .int .u32 rI, .int .u32 rIM, .int .u8 rS, .int .u8 rSM, .int .u8 rV, .int .u8 rVM, .int .u32 rA, .int .u32 rAM, .bool rN] 44)))
          have HLit := Lib.hid (Rls.lit (r := ⟨rK, rI, rIM, rS, rSM, rV, rVM, rA, rAM, rN⟩) HW.out (Blk.new w3 #[.int .i64 rK, .int .u32 rI, .int .u32 rIM, .int .u8 rS, .int .u8 rSM, .int .u8 rV, .int .u8 rVM, .int .u32 rA, .int .u32 rAM, .bool rN] 44))
          go_wp2_with (at_builtin; refine wpList_appR _ rfl (.tmp 26) (.tmp 28) rfl (.slice va M.length vc) M (by rfl) OW.out (some ⟨w3.heap.size, 0, none⟩) 1 1 [⟨rK, rI, rIM, rS, rSM, rV, rVM, rA, rAM, rN⟩] rfl rfl HLit.out (fun h => by cases h) (by simp only [List.length_singleton]; omega) ?_; intro v7 w7 ho7 hk7 hg7; have O7 := Lib.hid ho7; have K7 := Lib.hid hk7; have G7 := Lib.hid hg7; clear ho7 hk7 hg7)
          have n4 : Nb wr (w3.alloc (.cells #[.int .i64 rK, .int .u32 rI, .int .u32 rIM, .int .u8 rS, .int .u8 rSM, .int .u8 rV, .int .u8 rVM, .int .u32 rA, .int .u32 rAM, .bool rN] 44)) := N3.out.al _
          have s4 : w3.heap.size ≤ (w3.alloc (.cells #[.int .i64 rK, .int .u32 rI, .int .u32 rIM, .int .u8 rS, .int .u8 rSM, .int .u8 rV, .int .u8 rVM, .int .u32 rA, .int .u32 rAM, .bool rN] 44)).heap.size := (Nb.rfl.al _ : Nb w3 (w3.alloc (.cells #[.int .i64 rK, .int .u32 rI, .int .u32 rIM, .int .u8 rS, .int .u8 rSM, .int .u8 rV, .int .u8 rVM, .int .u32 rA, .int .u32 rAM, .bool rN] 44))).size
          have s3 : wr.heap.size ≤ w3.heap.size := N3.out.size
          have s2 : w1.heap.size ≤ wr.heap.size := NI.out.size
          have nb7 : Nb w1 w7 := (NI.out.tr n4).trans (K7.out.toBelow (NI.out.tr n4).size GI.out)
          first
          | (go_roundw
             case rel => exact ⟨k + 1, by omega, by go_num, by rw [HT.out, HD.out]; exact O7.out, fun g e => (G7.out g e).elim (GI.out g) (fun q => by omega), nb7⟩
             case measure => simp [intOf]; omega)
          | exact ⟨⟨k + 1, by omega, by go_num, by rw [HT.out, HD.out]; exact O7.out, fun g e => (G7.out g e).elim (GI.out g) (fun q => by omega), nb7⟩, by simp [intOf]; omega⟩
      · obtain rfl : k = L.length := by omega
        have HM2 := Lib.hid (show M = dedup L by rw [HM.out, List.take_length])
        obtain ⟨g0, g1⟩ := (B1.out.nb NI.out).r2
        clear e0 e1
        go_wp2_with fail
        obtain ⟨zL, hzL⟩ : ∃ zL, zL = wr := ⟨_, rfl⟩
        go_loopw [5] (fun v w2 => ∃ j : Nat, j ≤ M.length ∧ v = .slice va j vc ∧ cutN el M j = cutN el M M.length ∧ OwnR w2 (.slice va j vc) (M.take j) ∧ Nb zL w2) (fun v _ => match v with | .slice _ n _ => n | _ => 0)
        case atStart => exact ⟨M.length, Nat.le_refl _, rfl, rfl, by rw [List.take_length]; exact OI.out, by rw [hzL]; exact Nb.rfl⟩
        case round =>
          obtain ⟨j, hj, rfl, hct, ho, hn⟩ := hrel
          have HCU := Lib.hid hct
          have OJ := Lib.hid ho
          have NJ := Lib.hid hn
          have NI := Lib.hid (show Nb w1 zL by rw [hzL]; exact NI.out)
          obtain ⟨p0, p1⟩ := ((B1.out.nb NI.out).nb NJ.out).r2
          have hjc : j ≤ vc := by omega
          have hv63 : vc ≤ 9223372036854775807 := by unfold maxLen at hvm; omega
          have HLE := Lib.hid (show ∀ g, Value.ownBlock (.slice va j vc) = some g → w1.heap.size ≤ g from fun g e => by cases va <;> exact GI.out g e)
          clear hct ho hn g0 g1 hzL OI HVN hk HM hMk hlt HC NZ BB BX hL
          by_cases hz : j = 0
          · subst hz
            go_wp2_with fail
            go_quiet (fail)
            obtain ⟨wq, hwq⟩ : ∃ wq, wq = wr.drewN nq := ⟨_, rfl⟩
            have NQ := Lib.hid (show Nb zL wq by rw [hwq]; exact NJ.out.tr (Nb.drewN _ _))
            have OQ := Lib.hid (show OwnR wq (.slice va 0 vc) (M.take 0) by rw [hwq]; exact OJ.out.nb (Nb.drewN _ _))
            have HCT := Lib.hid (show 0 = cutN el M M.length from HCU.out)
            rw [← hwq]
            clear hwq p0 p1
            have X2 := Lib.hid ((X1.out.nb NI.out).nb NQ.out)
            obtain ⟨p0, p1⟩ := ((B1.out.nb NI.out).nb NQ.out).r2
            go_wp2_with (refine wpList_store_row (by rfl) _ _ _ (by rfl) _ _ (by rfl) (by rfl) _ _ X2.out (by kernel_rfl) (by rfl) (by simp [Value.oneCell']) ?_)
            have hb := Blk.rowF X2.out #[.slice va 0 vc, .bool el]
            have kq := Kp.rowF wq (B + 1) #[.slice va 0 vc, .bool el]
            change bodyPost _ _ _ _ _ (World.setRow wq (B + 1) #[.slice va 0 vc, .bool el])
            generalize World.setRow wq (B + 1) #[.slice va 0 vc, .bool el] = WW at hb kq ⊢
            obtain ⟨q0, q1⟩ := hb.r2
            refine bodyPost_ret (v := .tuple #[.agg #[.slice va 0 vc, .bool el], .int .i64 0]) (by simp [results, Tryd.results19, go_sem, q0, q1]) rfl ?_
            have hlen : (leastR L el).length = 0 := by rw [show leastR L el = strip el M by rw [HM2.out]; rfl, strip_len, ← HCT.out]
            have hgB : ∀ gg, Value.ownBlock (.slice va 0 vc) = some gg → w1.heap.size ≤ gg := HLE.out
            refine ⟨⟨leastR L el, va, vc, by rw [HQ.out]; rfl, by rw [hlen, HQ.out, show bkE L = 0 by simp [bkE, HQ.out]]; rfl, ?_, fun gg e => ?_⟩, (N1.out.tr (NI.out.tr NQ.out)).trans (kq.toBelow (N1.out.tr (NI.out.tr NQ.out)).size (fun k hk => by have := HB.out; omega))⟩
            · rw [hlen, show leastR L el = M.take 0 by rw [show leastR L el = strip el M by rw [HM2.out]; rfl]; unfold strip; rw [← HCT.out]]
              exact OQ.out.keep kq (fun gg e q => by have := hgB gg e; have := hBw; omega)
            · rw [hlen] at e
              exact Nat.le_trans N1.out.size (hgB gg e)
          · obtain ⟨g, rfl⟩ := HVA.out (by omega)
            obtain ⟨i, hi⟩ : ∃ i, j = i + 1 := ⟨j - 1, by omega⟩
            obtain ⟨rN, hrN⟩ : ∃ rN, (M.getD i dRl).N = rN := ⟨_, rfl⟩
            have hrw := OJ.out.rw.2
            have hlt : i < (M.take j).length := by rw [List.length_take]; omega
            have c9 := (hrw.cell (j := i) hlt (i := 9) (u := .bool rN) (by
              rw [show (M.take j).getD i dRl = M.getD i dRl by simp [List.getD, show i < j by omega]]
              rw [← hrN]; rfl)).1
            have ej : IntKind.i64.wrap ((j : Int) - 1) = (i : Int) := by rw [IntKind.wrap_i64]; omega
            have ei : IntKind.i64.wrap (i : Int) = (i : Int) := by rw [IntKind.wrap_i64]; omega
            have hj0 : (0 : Int) < (j : Int) := by omega
            have hj0n : 0 < j := by omega
            have hi0 : (0 : Int) ≤ (i : Int) := by omega
            have hij : (i : Int) < (j : Int) := by omega
            have hijn : i < j := by omega
            have hcut := fun w => run_cutR (some ⟨g, 0, none⟩) j vc i (by omega) w
            have HJI := Lib.hid hi
            have HCN := Lib.hid (show cutN el M j = if rN == el then cutN el M i else j by
              rw [hi]
              show (if (M.getD i dRl).N == el then _ else _) = _
              rw [hrN])
            clear hrw hi hlt hz hrN
            cases dq : (rN == el) with
            | true =>
              rw [dq, if_pos rfl] at HCN
              go_wp2_with fail
              go_quiet (fail)
              obtain ⟨wq, hwq⟩ : ∃ wq, wq = wr.drewN nq := ⟨_, rfl⟩
              have NQ := Lib.hid (show Nb zL wq by rw [hwq]; exact NJ.out.tr (Nb.drewN _ _))
              have OQ := Lib.hid (show OwnR wq (.slice (some ⟨g, 0, none⟩) j vc) (M.take j) by rw [hwq]; exact OJ.out.nb (Nb.drewN _ _))
              rw [← hwq]
              clear hwq c9 p0 p1
              go_wp2
              go_roundw
              case rel => exact ⟨i, by have := HJI.out; omega, rfl, by rw [← HCN.out]; exact HCU.out, by
                have h1 := (OQ.out.rw.2.less i).own
                rw [List.take_take, show min i j = i by omega, List.length_take, show min i M.length = i by omega] at h1
                exact h1, NQ.out⟩
              case measure => have := HJI.out; omega
            | false =>
              rw [dq] at HCN
              go_wp2_with fail
              go_quiet (fail)
              obtain ⟨wq, hwq⟩ : ∃ wq, wq = wr.drewN nq := ⟨_, rfl⟩
              have NQ := Lib.hid (show Nb zL wq by rw [hwq]; exact NJ.out.tr (Nb.drewN _ _))
              have OQ := Lib.hid (show OwnR wq (.slice (some ⟨g, 0, none⟩) j vc) (M.take j) by rw [hwq]; exact OJ.out.nb (Nb.drewN _ _))
              have HCT := Lib.hid (show j = cutN el M M.length by rw [← HCU.out, HCN.out]; rfl)
              rw [← hwq]
              clear hwq c9 p0 p1
              have X2 := Lib.hid ((X1.out.nb NI.out).nb NQ.out)
              obtain ⟨p0, p1⟩ := ((B1.out.nb NI.out).nb NQ.out).r2
              go_wp2_with (refine wpList_store_row (by rfl) _ _ _ (by rfl) _ _ (by rfl) (by rfl) _ _ X2.out (by kernel_rfl) (by rfl) (by simp [Value.oneCell']) ?_)
              have hb := Blk.rowF X2.out #[.slice (some ⟨g, 0, none⟩) j vc, .bool el]
              have kq := Kp.rowF wq (B + 1) #[.slice (some ⟨g, 0, none⟩) j vc, .bool el]
              change bodyPost _ _ _ _ _ (World.setRow wq (B + 1) #[.slice (some ⟨g, 0, none⟩) j vc, .bool el])
              generalize World.setRow wq (B + 1) #[.slice (some ⟨g, 0, none⟩) j vc, .bool el] = WW at hb kq ⊢
              obtain ⟨q0, q1⟩ := hb.r2
              refine bodyPost_ret (v := .tuple #[.agg #[.slice (some ⟨g, 0, none⟩) j vc, .bool el], .int .i64 0]) (by simp [results, Tryd.results19, go_sem, q0, q1]) rfl ?_
              have hlen : (leastR L el).length = j := by rw [show leastR L el = strip el M by rw [HM2.out]; rfl, strip_len, ← HCT.out]
              have hgB : ∀ gg, Value.ownBlock (.slice (some ⟨g, 0, none⟩) j vc) = some gg → w1.heap.size ≤ gg := HLE.out
              refine ⟨⟨leastR L el, (some ⟨g, 0, none⟩), vc, by rw [HQ.out]; rfl, by rw [hlen, HQ.out, show bkE L = 0 by simp [bkE, HQ.out]]; rfl, ?_, fun gg e => ?_⟩, (N1.out.tr (NI.out.tr NQ.out)).trans (kq.toBelow (N1.out.tr (NI.out.tr NQ.out)).size (fun k hk => by have := HB.out; omega))⟩
              · rw [hlen, show leastR L el = M.take j by rw [show leastR L el = strip el M by rw [HM2.out]; rfl]; unfold strip; rw [← HCT.out]]
                exact OQ.out.keep kq (fun gg e q => by have := hgB gg e; have := hBw; omega)
              · rw [hlen] at e
                exact Nat.le_trans N1.out.size (hgB gg e)
end Go.Proofs.YtaohmgklhecjbaaDoor
