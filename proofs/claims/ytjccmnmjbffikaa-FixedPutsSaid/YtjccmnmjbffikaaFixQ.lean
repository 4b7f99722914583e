
/- Contracts of the document's Get, Tally and Tells of layer 4. No conditions. -/
import Derived.Test.YtjccmnmjbffikaaFixR
namespace Go.Proofs.Ytjccmnmjbffikaa
open Go.RowKit

set_option maxHeartbeats 1600000 in
set_option maxRecDepth 100000 in
theorem refget_bad (p : Nat) (a : Option Addr) (cap : Nat) (l : List Nat) (E : Int) (A : Bool) (w : World) (hp : p < 256) (h : Bs w a cap l) (hb : fgOk p l E = false) :
    Calls Try.prog 14 #[.int .u8 p, .slice a l.length cap, .agg #[.int .i64 E, .bool A]] w fun e w' => AnsF w [] 2 e w' ∧ Nb w w' := by
  have hL := h.len
  have H := Lib.hid h
  clear h
  by_cases hp1 : p ≤ 1
  · cases hc : chk l with
    | false =>
      have HC := Lib.hid hc
      clear hb hc
      go_enter Try.func14, Try.ntmps14
      go_wp2_with fail
      refine (refcheck_bad a cap l _ (H.out.below (Nb.rfl.al _)) HC.out).mono ?_
      rintro e w2 ⟨rfl, rfl⟩
      go_wp2
      go_ret2
      exact ⟨⟨_, _, rfl, Fresh.nil _ _⟩, Nb.rfl.al _⟩
    | true =>
      have hg : E < 1 ∨ 64 < E := by
        rw [fgOk, hc, Bool.and_true] at hb
        simp only [bgOk, Bool.and_eq_false_iff, decide_eq_false_iff_not] at hb
        omega
      have HC := Lib.hid hc
      clear hb hc
      by_cases h1 : E < 1
      · clear hg
        go_enter Try.func14, Try.ntmps14
        go_wp2_with fail
        refine (refcheck_ok a cap l _ (H.out.below (Nb.rfl.al _)) HC.out).mono ?_
        rintro e w2 ⟨rfl, rfl⟩
        go_wp2
        go_ret2
        exact ⟨⟨_, _, rfl, Fresh.nil _ _⟩, Nb.rfl.al _⟩
      · have h2 : 64 < E := by omega
        clear hg
        go_enter Try.func14, Try.ntmps14
        go_wp2_with fail
        refine (refcheck_ok a cap l _ (H.out.below (Nb.rfl.al _)) HC.out).mono ?_
        rintro e w2 ⟨rfl, rfl⟩
        go_wp2
        go_ret2
        exact ⟨⟨_, _, rfl, Fresh.nil _ _⟩, Nb.rfl.al _⟩
  · clear hb
    go_enter Try.func14, Try.ntmps14
    go_wp2
    go_ret2
    exact ⟨⟨_, _, rfl, Fresh.nil _ _⟩, Nb.rfl.al _⟩

theorem lastP_take {p : Nat} {l : List Nat} {k : Nat} (hk : 0 < k) (hl : k ≤ l.length) : lastP p (l.take k) = l.getD (k - 1) 0 := by
  have h1 : (l.take k).length = k := by rw [List.length_take]; omega
  unfold lastP
  rw [if_neg (by intro h; rw [h] at h1; simp at h1; omega), h1]
  simp [List.getD, show k - 1 < k by omega]
theorem fgStep_dueF {E : Nat} {s : FxS} (b : Nat) (h : s.due = true) : (fgStep E s b).due = false := by
  unfold fgStep
  simp [h]
theorem fgStep_dueN {E : Nat} {s : FxS} (b : Nat) (h : s.due = false) : (fgStep E s b).due = decide ((s.out ++ [b]).length % E = 0) := by
  unfold fgStep
  simp [h]

set_option maxHeartbeats 3200000 in
set_option maxRecDepth 100000 in
theorem refget_ok (p : Nat) (a : Option Addr) (cap : Nat) (l : List Nat) (E : Nat) (A : Bool) (w : World) (hp : p ≤ 1) (h : Bs w a cap l) (h1 : 1 ≤ E) (h2 : E ≤ 64) (hc : chk l = true) :
    Calls Try.prog 14 #[.int .u8 p, .slice a l.length cap, .agg #[.int .i64 E, .bool A]] w fun e w' => (∃ out er, fgAns p l E A out er ∧ AnsF w out er e w') ∧ Nb w w' := by
  have hL := h.len
  have hlen := chk_len hc
  have hbit := Lib.hid (chk_bit hc)
  have H := Lib.hid h
  have HC := Lib.hid hc
  have hE0 : ((E : Int) == 0) = false := by rw [beq_eq_false_iff_ne]; omega
  obtain ⟨w0, hw0⟩ : ∃ w0, w0 = w.alloc (.cells #[.int .i64 E, .bool A] 24) := ⟨_, rfl⟩
  have hB : Blk w0 w.heap.size #[.int .i64 E, .bool A] 24 := by rw [hw0]; exact Blk.new _ _ _
  have hn0 : Nb w w0 := by rw [hw0]; exact Nb.rfl.al _
  have z0 : w0.cell? ⟨w.heap.size, 0, none⟩ = some (.int .i64 E) := hB.cell 0
  have z1 : w0.cell? ⟨w.heap.size, 1, none⟩ = some (.bool A) := hB.cell 1
  have HB := Lib.hid hB
  have HN0 := Lib.hid hn0
  have HW0 := Lib.hid hw0
  clear h hc hB hn0 hw0
  go_enter Try.func14, Try.ntmps14
  go_wp2_with fail
  rw [← HW0.out]
  refine (refcheck_ok a cap l w0 (H.out.below HN0.out) HC.out).mono ?_
  rintro e w2 ⟨rfl, rfl⟩
  go_wp2
  clear z0 z1
  go_loopw [8, 9, 10, 35] (fun v u d i wr => ∃ k : Nat, k ≤ l.length ∧ i = .int .i64 k ∧ u = .bool (fgS E A p (l.take k)).last ∧ d = .bool (fgS E A p (l.take k)).due ∧ (fgS E A p (l.take k)).ok = true ∧ Fresh w0 wr v (fgS E A p (l.take k)).out ∧ Nb w0 wr) (fun _ _ _ i _ => l.length - (intOf i).toNat)
  case atStart => exact ⟨0, Nat.zero_le _, rfl, rfl, rfl, rfl, Fresh.nil _ _, Nb.rfl⟩
  case round =>
    obtain ⟨k, hk, rfl, rfl, rfl, hok, hfr, hnb⟩ := hrel
    by_cases hlt : k < l.length
    · obtain ⟨b, o, rfl, hcl⟩ := (H.out.below (HN0.out.tr hnb)).hcells (by omega)
      obtain ⟨x, hx⟩ : ∃ x, l[k]? = some x := ⟨l[k], by simp [hlt]⟩
      have c1 := hcl k hlt
      rw [show l.getD k 0 = x from by simp [List.getD, hx]] at c1
      have hBr := HB.out.nb hnb
      have e0 : wr.cell? ⟨w.heap.size, 0, none⟩ = some (.int .i64 E) := hBr.cell 0
      have hx1 := hbit.out x (List.mem_of_getElem? hx)
      have hbT : ∀ y ∈ l.take k, y ≤ 1 := fun y hy => hbit.out y (List.mem_of_mem_take hy)
      have hlast := lastP_le hp hbT
      have hpv := fgS_prev E A p (l.take k)
      have hol := fgS_len E A p (l.take k)
      have htl : (l.take k).length = k := by rw [List.length_take]; omega
      rw [htl] at hol
      have htk : fgS E A p (l.take (k + 1)) = fgStep E (fgS E A p (l.take k)) x := by rw [take_snoc' hx, fgS_snoc]
      -- the bit ahead
      obtain ⟨la, hla⟩ : ∃ la, lastP p (l.take k) = la := ⟨_, rfl⟩
      have hz : k = 0 → la = p := fun h => by rw [← hla, h]; rfl
      have hpos : 0 < k → wr.cell? ⟨b, o + (k - 1), none⟩ = some (.int .u8 (la : Nat)) := fun h => by
        rw [← hla, lastP_take h hk]
        exact hcl (k - 1) (by omega)
      rw [hla] at hpv hlast
      have HBr := Lib.hid hBr
      have HNB := Lib.hid hnb
      have HFR := Lib.hid hfr
      clear hnb hfr hBr hcl hx hbT htl hla
      cases hd : (fgS E A p (l.take k)).due with
      | true =>
        obtain ⟨t1, t2, t3⟩ := fgStep_due (E := E) x hd
        have t4 := fgStep_dueF (E := E) x hd
        rw [← htk] at t1 t2 t3 t4
        rw [hok, hpv, Bool.true_and] at t3
        obtain ⟨P, hP⟩ : ∃ P, (fgS E A p (l.take k)).out = P := ⟨_, rfl⟩
        rw [hP] at t1 HFR hol
        have HT1 := Lib.hid t1
        have HT2 := Lib.hid t2
        have HT3 := Lib.hid t3
        have HT4 := Lib.hid t4
        have HZ := Lib.hid hz
        have HPOS := Lib.hid hpos
        clear t1 t2 t3 t4 hd htk hpv hok hP hz hpos
        by_cases hxl : x = la
        · have hxe : ((x : Int) == (la : Int)) = true := by rw [beq_iff_eq]; omega
          have HXL : Hid ((x == la) = true) := Lib.hid (by rw [beq_iff_eq]; exact hxl)
          clear hxl
          by_cases hk0 : 0 < k
          · have c0 := HPOS.out hk0
            go_wp2
            go_ret2
            exact ⟨⟨_, _, .inl ⟨fgS_bad (k := k + 1) (by rw [HT3.out, HXL.out]; rfl), rfl, rfl⟩, _, _, rfl, Fresh.nil _ _⟩, HN0.out.tr HNB.out⟩
          · have hpe := HZ.out (by omega)
            subst hpe
            go_wp2
            go_ret2
            exact ⟨⟨_, _, .inl ⟨fgS_bad (k := k + 1) (by rw [HT3.out, HXL.out]; rfl), rfl, rfl⟩, _, _, rfl, Fresh.nil _ _⟩, HN0.out.tr HNB.out⟩
        · have hxe : ((x : Int) == (la : Int)) = false := by rw [beq_eq_false_iff_ne]; omega
          have HXL : Hid ((x == la) = false) := Lib.hid (by rw [beq_eq_false_iff_ne]; exact hxl)
          clear hxl
          by_cases hk0 : 0 < k
          · have c0 := HPOS.out hk0
            go_wp2
            go_roundw
            case rel => exact ⟨k + 1, by omega, by go_num, by rw [HT2.out], by rw [HT4.out], by rw [HT3.out, HXL.out]; rfl, by rw [HT1.out]; exact HFR.out, HNB.out⟩
            case measure => simp [intOf]; omega
          · have hpe := HZ.out (by omega)
            subst hpe
            go_wp2
            go_roundw
            case rel => exact ⟨k + 1, by omega, by go_num, by rw [HT2.out], by rw [HT4.out], by rw [HT3.out, HXL.out]; rfl, by rw [HT1.out]; exact HFR.out, HNB.out⟩
            case measure => simp [intOf]; omega
      | false =>
        obtain ⟨t1, t2, t3⟩ := fgStep_not (E := E) x hd
        have t4 := fgStep_dueN (E := E) x hd
        rw [← htk] at t1 t2 t3 t4
        rw [hok] at t3
        obtain ⟨P, hP⟩ : ∃ P, (fgS E A p (l.take k)).out = P := ⟨_, rfl⟩
        rw [hP] at t1 t4 HFR hol
        obtain ⟨L, hL2⟩ : ∃ L, P ++ [x] = L := ⟨_, rfl⟩
        have hLn : L.length ≤ 65537 := by rw [← hL2, List.length_append, List.length_singleton]; omega
        rw [hL2] at t1 t4
        have hr := tmod_nat L.length E
        obtain ⟨m, hm⟩ : ∃ m, L.length % E = m := ⟨_, rfl⟩
        rw [hm] at hr t4
        have hmb := beq0 m
        have HT1 := Lib.hid t1
        have HT2 := Lib.hid t2
        have HT3 := Lib.hid t3
        have HT4 := Lib.hid t4
        have HZ := Lib.hid hz
        have HPOS := Lib.hid hpos
        have HL2 := Lib.hid hL2
        have hfr := HFR.out
        obtain ⟨aP, cP, rfl, -, -⟩ := hfr.1.bs
        have hal : Kp (fun _ => False) wr (wr.alloc (.cells #[.int .u8 (x : Int)] 5)) := Kp.alloc
        have hownX := hfr.1.keep hal (by simp)
        clear t1 t2 t3 t4 hd htk hpv hok hP hz hpos hL2 hm hfr hal
        by_cases hk0 : 0 < k
        · have c0 := HPOS.out hk0
          go_wp2_with (at_builtin; refine wpList_appB _ rfl (.tmp 57) (.tmp 59) rfl _ P rfl hownX _ _ [x] 1 rfl rfl (Bs.one wr x (by omega) _) (by simp) (by simp; omega) ?_)
          intro v9 w9 hown9 hk9 hf9
          rw [HL2.out] at hown9
          have happ := HFR.out.app HNB.out hown9 hk9 (by simpa using hf9)
          obtain ⟨a9, c9, rfl, -, -⟩ := hown9.bs
          have HA9 := Lib.hid happ
          have hB9 := HB.out.nb happ.2
          have q0 : w9.cell? ⟨w.heap.size, 0, none⟩ = some (.int .i64 E) := hB9.cell 0
          clear happ hown9 hk9 hf9 hownX HFR hB9 e0
          by_cases hm0 : m = 0
          · rw [decide_eq_true hm0] at HT4 hmb
            clear hm0
            go_wp2
            go_roundw
            case rel => exact ⟨k + 1, by omega, by go_num, by rw [HT2.out], by rw [HT4.out], HT3.out, by rw [HT1.out]; exact HA9.out.1, HA9.out.2⟩
            case measure => simp [intOf]; omega
          · rw [decide_eq_false hm0] at HT4 hmb
            clear hm0
            go_wp2
            go_roundw
            case rel => exact ⟨k + 1, by omega, by go_num, by rw [HT2.out], by rw [HT4.out], HT3.out, by rw [HT1.out]; exact HA9.out.1, HA9.out.2⟩
            case measure => simp [intOf]; omega
        · have hpe := HZ.out (by omega)
          subst hpe
          go_wp2_with (at_builtin; refine wpList_appB _ rfl (.tmp 57) (.tmp 59) rfl _ P rfl hownX _ _ [x] 1 rfl rfl (Bs.one wr x (by omega) _) (by simp) (by simp; omega) ?_)
          intro v9 w9 hown9 hk9 hf9
          rw [HL2.out] at hown9
          have happ := HFR.out.app HNB.out hown9 hk9 (by simpa using hf9)
          obtain ⟨a9, c9, rfl, -, -⟩ := hown9.bs
          have HA9 := Lib.hid happ
          have hB9 := HB.out.nb happ.2
          have q0 : w9.cell? ⟨w.heap.size, 0, none⟩ = some (.int .i64 E) := hB9.cell 0
          clear happ hown9 hk9 hf9 hownX HFR hB9 e0
          by_cases hm0 : m = 0
          · rw [decide_eq_true hm0] at HT4 hmb
            clear hm0
            go_wp2
            go_roundw
            case rel => exact ⟨k + 1, by omega, by go_num, by rw [HT2.out], by rw [HT4.out], HT3.out, by rw [HT1.out]; exact HA9.out.1, HA9.out.2⟩
            case measure => simp [intOf]; omega
          · rw [decide_eq_false hm0] at HT4 hmb
            clear hm0
            go_wp2
            go_roundw
            case rel => exact ⟨k + 1, by omega, by go_num, by rw [HT2.out], by rw [HT4.out], HT3.out, by rw [HT1.out]; exact HA9.out.1, HA9.out.2⟩
            case measure => simp [intOf]; omega
    · obtain rfl : k = l.length := by omega
      rw [List.take_of_length_le (Nat.le_refl _)] at hfr hok ⊢
      obtain ⟨aP, cP, rfl, -, -⟩ := hfr.1.bs
      have hfw : Fresh w wr (.slice aP _ cP) _ := ⟨hfr.1, fun g hg => Nat.le_trans HN0.out.size (hfr.2 g hg)⟩
      have HFR := Lib.hid hfw
      have HOK := Lib.hid hok
      clear hfr hok hfw
      cases hla : (fgS E A p l).last with
      | true =>
        have HLA := Lib.hid hla
        clear hla
        go_wp2
        go_ret2
        exact ⟨⟨_, _, .inr (.inl ⟨HOK.out, HLA.out, rfl, rfl⟩), _, _, rfl, Fresh.nil _ _⟩, HN0.out.tr hnb⟩
      | false =>
        have HLA := Lib.hid hla
        clear hla
        go_wp2
        go_ret2
        exact ⟨⟨_, _, .inr (.inr ⟨HOK.out, HLA.out, rfl, rfl⟩), _, _, rfl, HFR.out⟩, HN0.out.tr hnb⟩

theorem refget_u (p : Nat) (a : Option Addr) (cap : Nat) (l : List Nat) (E : Int) (A : Bool) (w : World) (hp : p < 256) (h : Bs w a cap l) :
    Calls Try.prog 14 #[.int .u8 p, .slice a l.length cap, .agg #[.int .i64 E, .bool A]] w fun e w' => AnsF w (fgL p l E A) (fgE p l E A) e w' ∧ Nb w w' := by
  cases hb : fgOk p l E with
  | false =>
    have e : fgE p l E A = 2 := by simp [fgE, hb]
    have e2 : fgL p l E A = [] := by simp [fgL, e]
    rw [e, e2]
    exact refget_bad p a cap l E A w hp h hb
  | true =>
    have hb' := hb
    simp only [fgOk, Bool.and_eq_true] at hb
    obtain ⟨m, rfl, h1, h2, hp1⟩ := bgOk_nat hb.1
    refine (refget_ok p a cap l m A w hp1 h h1 h2 hb.2).mono ?_
    rintro e w' ⟨⟨out, er, hans, hA⟩, hnb⟩
    obtain ⟨rfl, rfl⟩ := fgAns_eq hb' hans
    exact ⟨hA, hnb⟩
end Go.Proofs.Ytjccmnmjbffikaa
