
/- Contract of package fixed's Get. No conditions. -/
import Derived.Test.YtjccmnmjbffikaaFixM
namespace Go.Proofs.Ytjccmnmjbffikaa
open Go.RowKit

/-! Get's answers. -/
def fgOk (p : Nat) (l : List Nat) (E : Int) : Bool := bgOk p E && chk l
def fgE (p : Nat) (l : List Nat) (E : Int) (A : Bool) : Nat := if fgOk p l E then (if (fgS E.toNat A p l).ok then (if (fgS E.toNat A p l).last then 7 else 0) else 4) else 2
def fgL (p : Nat) (l : List Nat) (E : Int) (A : Bool) : List Nat := if fgE p l E A = 0 then (fgS E.toNat A p l).out else []
theorem fgS_bad {E : Nat} {A : Bool} {p : Nat} {l : List Nat} {k : Nat} (h : (fgS E A p (l.take k)).ok = false) : (fgS E A p l).ok = false := by
  cases hq : (fgS E A p l).ok with
  | false => rfl
  | true =>
    rw [← List.take_append_drop k l] at hq
    rw [fgS_ok_left _ _ _ _ _ hq] at h
    cases h
theorem fgStep_due {E : Nat} {s : FxS} (b : Nat) (h : s.due = true) : (fgStep E s b).out = s.out ∧ (fgStep E s b).last = true ∧ (fgStep E s b).ok = (s.ok && !(b == s.prev)) := by
  unfold fgStep
  simp [h]
theorem fgStep_not {E : Nat} {s : FxS} (b : Nat) (h : s.due = false) : (fgStep E s b).out = s.out ++ [b] ∧ (fgStep E s b).last = false ∧ (fgStep E s b).ok = s.ok := by
  unfold fgStep
  simp [h]

set_option maxHeartbeats 1600000 in
set_option maxRecDepth 100000 in
theorem fxget_bad (p : Nat) (a : Option Addr) (cap : Nat) (l : List Nat) (E : Int) (A : Bool) (w : World) (hp : p < 256) (h : Bs w a cap l) (hb : fgOk p l E = false) :
    Calls Try.prog 13 #[.int .u8 p, .slice a l.length cap, .agg #[.int .i64 E, .bool A]] w fun e w' => AnsF w [] 2 e w' ∧ Nb w w' := by
  have hL := h.len
  have H := Lib.hid h
  clear h
  cases hg : bgOk p E with
  | false =>
    have HG := Lib.hid hg
    clear hb hg
    go_enter Try.func13, Try.ntmps13
    go_wp2_with fail
    refine (fxbegin_bad p E A _ hp HG.out).mono ?_
    rintro e w1 ⟨rfl, hnb⟩
    go_wp2
    go_ret2
    exact ⟨⟨_, _, rfl, Fresh.nil _ _⟩, (Nb.rfl.al _).tr hnb⟩
  | true =>
    obtain ⟨m, rfl, h1, h2, hp1⟩ := bgOk_nat hg
    have hc : chk l = false := by simpa [fgOk, hg] using hb
    have HC := Lib.hid hc
    clear hb hg hc
    go_enter Try.func13, Try.ntmps13
    go_wp2_with fail
    refine (fxbegin_ok p m A _ hp1 h1 h2).mono ?_
    rintro e w1 ⟨⟨R, rfl, hst, hR⟩, hnb⟩
    have hnb1 : Nb w w1 := (Nb.rfl.al _).tr hnb
    clear hst hnb hR
    go_wp2_with fail
    refine (check_bad a cap l w1 (H.out.below hnb1) HC.out).mono ?_
    rintro e w2 ⟨rfl, rfl⟩
    go_wp2
    go_ret2
    exact ⟨⟨_, _, rfl, Fresh.nil _ _⟩, hnb1⟩

/-- What Get answers of a row that may be. -/
def fgAns (p : Nat) (l : List Nat) (E : Nat) (A : Bool) (out : List Nat) (er : Nat) : Prop :=
  ((fgS E A p l).ok = false ∧ out = [] ∧ er = 4) ∨ ((fgS E A p l).ok = true ∧ (fgS E A p l).last = true ∧ out = [] ∧ er = 7) ∨ ((fgS E A p l).ok = true ∧ (fgS E A p l).last = false ∧ out = (fgS E A p l).out ∧ er = 0)

set_option maxHeartbeats 3200000 in
set_option maxRecDepth 100000 in
theorem fxget_ok (p : Nat) (a : Option Addr) (cap : Nat) (l : List Nat) (E : Nat) (A : Bool) (w : World) (hp : p ≤ 1) (h : Bs w a cap l) (h1 : 1 ≤ E) (h2 : E ≤ 64) (hc : chk l = true) :
    Calls Try.prog 13 #[.int .u8 p, .slice a l.length cap, .agg #[.int .i64 E, .bool A]] w fun e w' => (∃ out er, fgAns p l E A out er ∧ AnsF w out er e w') ∧ Nb w w' := by
  have hL := h.len
  have hlen := chk_len hc
  have hbit := Lib.hid (chk_bit hc)
  have H := Lib.hid h
  have HC := Lib.hid hc
  have hm : ∀ w, (Instr.makeSlice 22 (.int .i64 0) (.int .i64 (l.length : Int))).run Try.prog w = .ok (.slice (some ⟨w.heap.size, 0, none⟩) 0 l.length) (w.alloc (.cells (madeCells #[.int .u8 0] l.length) 5)) := fun w => run_makeB w _ (by omega)
  have hmade := fun w => OwnB.made w l.length (by omega)
  have HMd := Lib.hid hmade
  clear h hc hmade
  go_enter Try.func13, Try.ntmps13
  go_wp2_with fail
  refine (fxbegin_ok p E A _ hp h1 h2).mono ?_
  rintro e w1 ⟨⟨R, rfl, hst, hR⟩, hnb⟩
  have hnb1 : Nb w w1 := (Nb.rfl.al _).tr hnb
  have hR1 : w.heap.size ≤ R := by simp at hR; omega
  have HST := Lib.hid hst
  clear hst hnb hR
  go_wp2_with fail
  refine (check_ok a cap l w1 (H.out.below hnb1) HC.out).mono ?_
  rintro e w2 ⟨rfl, rfl⟩
  have hRlt : R < w1.heap.size := Blk.lt HST.out
  have hst3 := HST.out.keep (F := fun _ => False) (Kp.alloc (o := .cells (madeCells #[.int .u8 0] l.length) 5)) (by simp)
  have hnb3 : Nb w (w1.alloc (.cells (madeCells #[.int .u8 0] l.length) 5)) := hnb1.al _
  have hsz2 : w.heap.size ≤ w1.heap.size := hnb1.size
  have hfr3 : Fresh w (w1.alloc (.cells (madeCells #[.int .u8 0] l.length) 5)) (.slice (some ⟨w1.heap.size, 0, none⟩) 0 l.length) [] := ⟨HMd.out w1, fun g hg => by simp [Value.ownBlock] at hg; omega⟩
  have hne3 : ∀ g, (Value.slice (some ⟨w1.heap.size, 0, none⟩) 0 l.length).ownBlock = some g → g ≠ R := fun g hg => by simp [Value.ownBlock] at hg; omega
  have S3 := Lib.hid hst3
  have N3 := Lib.hid hnb3
  have F3 := Lib.hid hfr3
  have NE3 := Lib.hid hne3
  clear hst3 hnb3 hfr3 hne3 HST hnb1
  go_wp2
  go_loopw [10, 11, 32] (fun v u i wr => ∃ k : Nat, k ≤ l.length ∧ i = .int .i64 k ∧ u = .bool (fgS E A p (l.take k)).last ∧ (fgS E A p (l.take k)).ok = true ∧ StA wr R E (leftG E A (fgS E A p (l.take k))) (lastP p (l.take k)) k ∧ Fresh w wr v (fgS E A p (l.take k)).out ∧ (∀ g, v.ownBlock = some g → g ≠ R) ∧ Nb w wr) (fun _ _ i _ => l.length - (intOf i).toNat)
  case atStart => exact ⟨0, Nat.zero_le _, rfl, rfl, rfl, S3.out, F3.out, NE3.out, N3.out⟩
  case round =>
    obtain ⟨k, hk, rfl, rfl, hok, hst, hfr, hne, hnb⟩ := hrel
    clear S3 N3 F3 NE3
    by_cases hlt : k < l.length
    · obtain ⟨b, o, rfl, hcl⟩ := (H.out.below hnb).hcells (by omega)
      obtain ⟨x, hx⟩ : ∃ x, l[k]? = some x := ⟨l[k], by simp [hlt]⟩
      have c1 := hcl k hlt
      rw [show l.getD k 0 = x from by simp [List.getD, hx]] at c1
      have hx1 := hbit.out x (List.mem_of_getElem? hx)
      have hbT : ∀ y ∈ l.take k, y ≤ 1 := fun y hy => hbit.out y (List.mem_of_mem_take hy)
      have hlast := lastP_le hp hbT
      have hpv := fgS_prev E A p (l.take k)
      have hdd := leftG_due h1 A p (l.take k)
      have hle := leftG_le (E := E) A (fgS E A p (l.take k))
      have hol := fgS_len E A p (l.take k)
      have htl : (l.take k).length = k := by rw [List.length_take]; omega
      rw [htl] at hol
      have hlt2 : lastP p (l.take (k + 1)) = x := by rw [take_snoc' hx, lastP_snoc]
      have htk : fgS E A p (l.take (k + 1)) = fgStep E (fgS E A p (l.take k)) x := by rw [take_snoc' hx, fgS_snoc]
      have hlg : leftG E A (fgS E A p (l.take (k + 1))) = if (fgS E A p (l.take k)).due then E else leftG E A (fgS E A p (l.take k)) - 1 := by
        rw [take_snoc' hx]
        cases hd : (fgS E A p (l.take k)).due with
        | true => rw [leftG_stuff x hd]; rfl
        | false => rw [leftG_plain h1 x hd]; rfl
      cases hd : (fgS E A p (l.take k)).due with
      | true =>
        obtain ⟨t1, t2, t3⟩ := fgStep_due (E := E) x hd
        rw [← htk] at t1 t2 t3
        rw [hok, hpv, Bool.true_and] at t3
        rw [hd] at hlg hdd
        simp only [if_true] at hlg
        generalize lastP p (l.take k) = la at *
        obtain ⟨q, hq⟩ : ∃ q, q = 1 - la := ⟨_, rfl⟩
        have hq1 : q ≤ 1 := by omega
        have HS := Lib.hid hst
        have HDD := Lib.hid hdd
        have HNB := Lib.hid hnb
        have HFR := Lib.hid hfr
        have HNE := Lib.hid hne
        have HT1 := Lib.hid t1
        have HT2 := Lib.hid t2
        have HT3 := Lib.hid t3
        have HLG := Lib.hid hlg
        have HLT := Lib.hid hlt2
        clear hst hdd hnb hfr hne t1 t2 t3 hlg hlt2 hd htk hpv hbT hcl hx htl hok
        by_cases hxq : q = x
        · have hneq : ((q : Int) != (x : Int)) = false := by rw [bne_eq_false_iff_eq]; omega
          have hxl : (x == la) = false := by rw [beq_eq_false_iff_ne]; omega
          have HXL := Lib.hid hxl
          have HXQ := Lib.hid hxq
          clear hxl hxq
          go_wp2_with fail
          refine (fxdue_any R E _ _ _ wr HS.out).mono ?_
          rintro e w4 ⟨rfl, rfl⟩
          rw [HDD.out]
          go_wp2_with fail
          refine (fxstuff_any R E _ _ _ wr HS.out (by omega) hlast).mono ?_
          rintro e w4 ⟨rfl, hs4, hk4⟩
          rw [← hq] at hs4 ⊢
          have hfr4 : Fresh w w4 _ _ := ⟨HFR.out.1.keep hk4 (fun g hg h => HNE.out g hg h), HFR.out.2⟩
          have hnb4 : Nb w w4 := HNB.out.trans (hk4.toBelow HNB.out.size (fun k h => by omega))
          have H4 := Lib.hid hs4
          have HF4 := Lib.hid hfr4
          have HN4 := Lib.hid hnb4
          clear hs4 hfr4 hnb4 hk4
          go_wp2
          go_roundw
          case rel => exact ⟨k + 1, by omega, by go_num, by rw [HT2.out], by rw [HT3.out, HXL.out]; rfl, by rw [HLG.out, HLT.out, ← HXQ.out]; exact H4.out, by rw [HT1.out]; exact HF4.out, HNE.out, HN4.out⟩
          case measure => simp [intOf]; omega
        · have hneq : ((q : Int) != (x : Int)) = true := by rw [bne_iff_ne]; omega
          have hxl : (x == la) = true := by rw [beq_iff_eq]; omega
          have HXL := Lib.hid hxl
          clear hxl hxq
          go_wp2_with fail
          refine (fxdue_any R E _ _ _ wr HS.out).mono ?_
          rintro e w4 ⟨rfl, rfl⟩
          rw [HDD.out]
          go_wp2_with fail
          refine (fxstuff_any R E _ _ _ wr HS.out (by omega) hlast).mono ?_
          rintro e w4 ⟨rfl, hs4, hk4⟩
          rw [← hq] at hs4 ⊢
          have hnb4 : Nb w w4 := HNB.out.trans (hk4.toBelow HNB.out.size (fun k h => by omega))
          clear hs4 hk4
          go_wp2
          go_ret2
          exact ⟨⟨_, _, .inl ⟨fgS_bad (k := k + 1) (by rw [HT3.out, HXL.out]; rfl), rfl, rfl⟩, _, _, rfl, Fresh.nil _ _⟩, hnb4⟩
      | false =>
        obtain ⟨t1, t2, t3⟩ := fgStep_not (E := E) x hd
        rw [← htk] at t1 t2 t3
        rw [hok] at t3
        have hpos := leftG_pos h1 hd
        rw [hd] at hlg hdd
        simp only [Bool.false_eq_true, if_false] at hlg
        generalize lastP p (l.take k) = la at *
        obtain ⟨P, hP⟩ : ∃ P, (fgS E A p (l.take k)).out = P := ⟨_, rfl⟩
        rw [hP] at t1 hfr hol
        obtain ⟨aP, cP, rfl, -, -⟩ := hfr.1.bs
        have HS := Lib.hid hst
        have HDD := Lib.hid hdd
        have HNB := Lib.hid hnb
        have HFR := Lib.hid hfr
        have HNE := Lib.hid hne
        have HT1 := Lib.hid t1
        have HT2 := Lib.hid t2
        have HT3 := Lib.hid t3
        have HLG := Lib.hid hlg
        have HLT := Lib.hid hlt2
        clear hst hdd hnb hfr hne t1 t2 t3 hlg hlt2 hd htk hpv hbT hcl hx htl hok hP
        go_wp2_with fail
        refine (fxdue_any R E _ _ _ wr HS.out).mono ?_
        rintro e w4 ⟨rfl, rfl⟩
        rw [HDD.out]
        go_wp2_with fail
        refine (fxplain_any R E _ _ _ x wr HS.out (by omega) (by omega) hpos (by omega)).mono ?_
        rintro e w6 ⟨rfl, hs7, hk7⟩
        have hfr7 : Fresh w w6 (.slice aP P.length cP) P := ⟨HFR.out.1.keep hk7 (fun g hg h => HNE.out g hg h), HFR.out.2⟩
        have hnb7 : Nb w w6 := HNB.out.trans (hk7.toBelow HNB.out.size (fun k h => by omega))
        have hal : Kp (fun _ => False) w6 (w6.alloc (.cells #[.int .u8 (x : Int)] 5)) := Kp.alloc
        have hown := hfr7.1.keep hal (by simp)
        have hs8 := hs7.keep hal (by simp)
        have hRw2 : R < w6.heap.size := Blk.lt hs7
        have HS8 := Lib.hid hs8
        have HFR7 := Lib.hid hfr7
        have HNB7 := Lib.hid hnb7
        clear hs7 hs8 hfr7 hnb7 hk7 hal HS HFR HNB
        go_wp2_with (at_builtin; refine wpList_appB _ rfl (.tmp 50) (.tmp 52) rfl _ P rfl hown _ _ [x] 1 rfl rfl (Bs.one w6 x (by omega) _) (by simp) (by simp; omega) ?_)
        intro v9 w9 hown9 hk9 hf9
        have happ := HFR7.out.app HNB7.out hown9 hk9 (by simpa using hf9)
        have hne9 : ∀ g, v9.ownBlock = some g → g ≠ R := fun g hg => by
          rcases hf9 g hg with h | h
          · exact HNE.out g h
          · first | omega | (simp at h; omega)
        have hs10 := HS8.out.keep hk9 (fun h => HNE.out R h rfl)
        have HS10 := Lib.hid hs10
        have HA9 := Lib.hid happ
        have HNE9 := Lib.hid hne9
        clear hs10 happ hne9 hown9 hk9 hf9 hown HFR7 HNB7 HS8 HNE
        go_wp2
        go_roundw
        case rel => exact ⟨k + 1, by omega, by go_num, by rw [HT2.out], HT3.out, by rw [HLG.out, HLT.out]; exact HS10.out, by rw [HT1.out]; exact HA9.out.1, HNE9.out, HA9.out.2⟩
        case measure => simp [intOf]; omega
    · obtain rfl : k = l.length := by omega
      rw [List.take_of_length_le (Nat.le_refl _)] at hfr hok ⊢
      obtain ⟨aP, cP, rfl, -, -⟩ := hfr.1.bs
      have HFR := Lib.hid hfr
      have HOK := Lib.hid hok
      clear hst hne hfr hok
      cases hla : (fgS E A p l).last with
      | true =>
        have HLA := Lib.hid hla
        clear hla
        go_wp2
        go_ret2
        exact ⟨⟨_, _, .inr (.inl ⟨HOK.out, HLA.out, rfl, rfl⟩), _, _, rfl, Fresh.nil _ _⟩, hnb⟩
      | false =>
        have HLA := Lib.hid hla
        clear hla
        go_wp2
        go_ret2
        exact ⟨⟨_, _, .inr (.inr ⟨HOK.out, HLA.out, rfl, rfl⟩), _, _, rfl, HFR.out⟩, hnb⟩

theorem fgAns_eq {p : Nat} {l : List Nat} {E : Nat} {A : Bool} {out : List Nat} {er : Nat} (hok : fgOk p l E = true) (h : fgAns p l E A out er) : out = fgL p l E A ∧ er = fgE p l E A := by
  rcases h with ⟨h1, rfl, rfl⟩ | ⟨h1, h2, rfl, rfl⟩ | ⟨h1, h2, rfl, rfl⟩
  · have e : fgE p l E A = 4 := by simp [fgE, hok, h1]
    exact ⟨by simp [fgL, e], e.symm⟩
  · have e : fgE p l E A = 7 := by simp [fgE, hok, h1, h2]
    exact ⟨by simp [fgL, e], e.symm⟩
  · have e : fgE p l E A = 0 := by simp [fgE, hok, h1, h2]
    exact ⟨by simp [fgL, e], e.symm⟩

theorem fxget_u (p : Nat) (a : Option Addr) (cap : Nat) (l : List Nat) (E : Int) (A : Bool) (w : World) (hp : p < 256) (h : Bs w a cap l) :
    Calls Try.prog 13 #[.int .u8 p, .slice a l.length cap, .agg #[.int .i64 E, .bool A]] w fun e w' => AnsF w (fgL p l E A) (fgE p l E A) e w' ∧ Nb w w' := by
  cases hb : fgOk p l E with
  | false =>
    have e : fgE p l E A = 2 := by simp [fgE, hb]
    have e2 : fgL p l E A = [] := by simp [fgL, e]
    rw [e, e2]
    exact fxget_bad p a cap l E A w hp h hb
  | true =>
    have hb' := hb
    simp only [fgOk, Bool.and_eq_true] at hb
    obtain ⟨m, rfl, h1, h2, hp1⟩ := bgOk_nat hb.1
    refine (fxget_ok p a cap l m A w hp1 h h1 h2 hb.2).mono ?_
    rintro e w' ⟨⟨out, er, hans, hA⟩, hnb⟩
    obtain ⟨rfl, rfl⟩ := fgAns_eq hb' hans
    exact ⟨hA, hnb⟩
end Go.Proofs.Ytjccmnmjbffikaa
