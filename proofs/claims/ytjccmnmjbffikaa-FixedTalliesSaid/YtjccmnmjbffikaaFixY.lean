
/- Contracts of tallies: package fixed's Tally and Tells. No conditions. -/
import Derived.Test.YtjccmnmjbffikaaFixG
namespace Go.Proofs.Ytjccmnmjbffikaa
open Go.RowKit

set_option maxHeartbeats 800000 in
set_option maxRecDepth 100000 in
/-- Put's row is new. -/
theorem put_okF (n size : Nat) (w : World) (hs : size ≤ 64) (hn : n < 2 ^ size) :
    Calls Try.prog 29 #[.int .u64 n, .int .i64 size] w fun e w' => AnsF w (bitsN n size) 0 e w' ∧ Nb w w' := by
  have hn64 : n < 2 ^ 64 := Nat.lt_of_lt_of_le hn (Nat.pow_le_pow_right (by omega) hs)
  have hsh : ((n : Int) / 2 ^ size != 0) = false := by
    have : ((n : Int) / 2 ^ size) = ((n / 2 ^ size : Nat) : Int) := by push_cast; rfl
    rw [this, Nat.div_eq_of_lt hn]; rfl
  have d1 : decide ((size : Int) < 0) = false := by simp
  have d2 : decide (64 < (size : Int)) = false := by simp; omega
  have HN := Lib.hid hn64
  clear hn hn64
  go_enter Try.func29, Try.ntmps29
  go_wp2_with fail
  refine (newRow_any size _ (by omega)).mono ?_
  rintro e w1 ⟨⟨g, c, rfl, ho, hg⟩, hnb⟩
  have hal : Kp (fun _ => False) w1 (w1.alloc (.cells #[.slice (some ⟨g, 0, none⟩) 0 c] 62)) := Kp.alloc
  have hlt := ho.lt (g := g) rfl
  have hrow : RowAt (w1.alloc (.cells #[.slice (some ⟨g, 0, none⟩) 0 c] 62)) 62 w1.heap.size (.slice (some ⟨g, 0, none⟩) 0 c) [] :=
    ⟨Blk.new _ _ _, ho.keep hal (by simp), by simp [Value.ownBlock]; omega⟩
  have HR := Lib.hid hrow
  clear hrow ho hal
  go_wp2_with fail
  refine (rownumber_any w1.heap.size _ [] n size _ HR.out HN.out hs (by simp)).mono ?_
  rintro e w2 ⟨rfl, v2, hr2, hkp, hfo⟩
  have hfr : Fresh w w2 v2 ([] ++ bitsN n size) := ⟨hr2.own, fun k hk => by
    rcases hfo k (.inr hk) with h | h
    · rcases h with rfl | h
      · exact hnb.size
      · simp [Value.ownBlock] at h; omega
    · have := hnb.size
      first | omega | (simp at h; omega)⟩
  obtain ⟨a, cap, rfl, -, _⟩ := hr2.own.bs
  have c0 : w2.cell? ⟨w1.heap.size, 0, none⟩ = _ := hr2.blk.cell 0
  have hnb2 : Nb w w2 := (hnb.al _).trans (hkp.toBelow (Nat.le_trans hnb.size (by simp)) (by rintro k (rfl | hk); exact hnb.size; simp [Value.ownBlock] at hk; omega))
  rw [List.nil_append] at hfr c0
  have HFR := Lib.hid hfr
  clear hr2 hkp hfr hfo
  go_wp2
  go_ret2
  exact ⟨⟨_, _, rfl, HFR.out⟩, hnb2⟩

/-! Tally's answers. -/
def tyE (n : Int) : Nat := if n < 0 then 2 else 0
def tyL (n : Int) : List Nat := if n < 0 then [] else tallyL n.toNat
theorem gray (r : Nat) (h : r < 8) : bits BinOp.xor IntKind.u64 ((r : Int) * 2) (r : Int) = (((2 * r) ^^^ r : Nat) : Int) ∧ ((2 * r) ^^^ r) < 2 ^ 4 := by
  rcases (by omega : r = 0 ∨ r = 1 ∨ r = 2 ∨ r = 3 ∨ r = 4 ∨ r = 5 ∨ r = 6 ∨ r = 7) with rfl | rfl | rfl | rfl | rfl | rfl | rfl | rfl <;> decide +kernel

set_option maxHeartbeats 800000 in
set_option maxRecDepth 100000 in
theorem tally_u (n : Int) (w : World) (hw : (Lit.int .i64 n).wf = true) :
    Calls Try.prog 18 #[.int .i64 n] w fun e w' => AnsF w (tyL n) (tyE n) e w' ∧ Nb w w' := by
  by_cases h0 : n < 0
  · rw [show tyL n = [] from if_pos h0, show tyE n = 2 from if_pos h0]
    go_enter Try.func18, Try.ntmps18
    go_wp2
    go_ret2
    exact ⟨⟨_, _, rfl, Fresh.nil _ _⟩, Nb.rfl⟩
  · rw [show tyL n = tallyL n.toNat from if_neg h0, show tyE n = 0 from if_neg h0]
    obtain ⟨m, rfl⟩ := Int.eq_ofNat_of_zero_le (by omega : 0 ≤ n)
    rw [Int.toNat_natCast]
    have hr : Int.tmod (m : Int) 8 = ((m % 8 : Nat) : Int) := by rw [Int.tmod_eq_emod_of_nonneg (by omega)]; push_cast; rfl
    have h8 := Nat.mod_lt m (show 0 < 8 by omega)
    have hty : tallyL m = bitsN ((2 * (m % 8)) ^^^ (m % 8)) 4 := rfl
    obtain ⟨g1, g2⟩ := gray (m % 8) h8
    rw [hty]
    generalize m % 8 = r at *
    obtain ⟨x, hx⟩ : ∃ x, x = (2 * r) ^^^ r := ⟨_, rfl⟩
    rw [← hx] at g1 g2 ⊢
    have HG := Lib.hid g1
    clear hty hx
    clear g1
    go_enter Try.func18, Try.ntmps18
    go_wp2_with fail
    rw [HG.out]
    refine (put_okF x 4 w (by omega) g2).mono ?_
    rintro e w1 ⟨⟨aA, cA, rfl, hf⟩, hnb⟩
    have HF := Lib.hid hf
    clear hf
    go_wp2
    go_ret2
    exact ⟨⟨_, _, rfl, HF.out⟩, hnb⟩

set_option maxHeartbeats 800000 in
set_option maxRecDepth 100000 in
theorem tells_bad (a : Option Addr) (cap : Nat) (l : List Nat) (w : World) (h : Bs w a cap l) (hb : tlOk l = false) :
    Calls Try.prog 20 #[.slice a l.length cap] w fun e w' => e = .returned (.tuple #[.int .i64 0, .int .i64 2]) ∧ Nb w w' := by
  have hL := h.len
  by_cases h4 : l.length = 4
  · have hc : chk l = false := by simpa [tlOk, h4] using hb
    have h4' : ((l.length : Int) != 4) = false := by rw [bne_eq_false_iff_eq]; omega
    have HC := Lib.hid hc
    have H := Lib.hid h
    clear hc hb h h4
    go_enter Try.func20, Try.ntmps20
    go_wp2_with fail
    refine (check_bad a cap l w H.out HC.out).mono ?_
    rintro e w2 ⟨rfl, rfl⟩
    go_wp2
    go_ret2
    exact ⟨rfl, Nb.rfl⟩
  · have h4' : ((l.length : Int) != 4) = true := by rw [bne_iff_ne]; omega
    clear hb h h4
    go_enter Try.func20, Try.ntmps20
    go_wp2
    go_ret2
    exact ⟨rfl, Nb.rfl⟩

theorem xor01 (o b : Nat) (ho : o ≤ 1) (hb : b ≤ 1) : bits BinOp.xor IntKind.i64 (o : Int) (b : Int) = (((o + b) % 2 : Nat) : Int) := by
  rcases (by omega : o = 0 ∨ o = 1) with rfl | rfl <;> rcases (by omega : b = 0 ∨ b = 1) with rfl | rfl <;> decide +kernel
theorem or01 (t o : Nat) (ht : t < 8) (ho : o ≤ 1) : bits BinOp.or IntKind.i64 ((t : Int) * 2) (o : Int) = ((2 * t + o : Nat) : Int) := by
  rcases (by omega : o = 0 ∨ o = 1) with rfl | rfl <;> rcases (by omega : t = 0 ∨ t = 1 ∨ t = 2 ∨ t = 3 ∨ t = 4 ∨ t = 5 ∨ t = 6 ∨ t = 7) with rfl | rfl | rfl | rfl | rfl | rfl | rfl | rfl <;> decide +kernel

set_option maxHeartbeats 800000 in
set_option maxRecDepth 100000 in
theorem tells_ok (a : Option Addr) (cap : Nat) (l : List Nat) (w : World) (h : Bs w a cap l) (h4 : l.length = 4) (hc : chk l = true) (N er : Nat) (ha : ((tellS l).2 = 1 ∧ N = 0 ∧ er = 6) ∨ ((tellS l).2 = 0 ∧ N = (tellS l).1 / 2 ∧ er = 0)) :
    Calls Try.prog 20 #[.slice a l.length cap] w fun e w' => e = .returned (.tuple #[.int .i64 N, .int .i64 er]) ∧ Nb w w' := by
  have hL := h.len
  have hbit := Lib.hid (chk_bit hc)
  have h4' : ((l.length : Int) != 4) = false := by rw [bne_eq_false_iff_eq]; omega
  have HC := Lib.hid hc
  have H := Lib.hid h
  have H4 := Lib.hid h4
  have HA := Lib.hid ha
  clear hc h h4 ha
  go_enter Try.func20, Try.ntmps20
  go_wp2_with fail
  refine (check_ok a cap l w H.out HC.out).mono ?_
  rintro e w2 ⟨rfl, rfl⟩
  go_wp2
  go_loop [4, 5, 18] (fun t o i => ∃ k : Nat, k ≤ l.length ∧ i = .int .i64 k ∧ t = .int .i64 (tellS (l.take k)).1 ∧ o = .int .i64 (tellS (l.take k)).2) (fun _ _ i => l.length - (intOf i).toNat)
  case atStart => exact ⟨0, Nat.zero_le _, rfl, rfl, rfl⟩
  case round =>
    obtain ⟨k, hk, rfl, rfl, rfl⟩ := hrel
    by_cases hlt : k < l.length
    · obtain ⟨b, o, rfl, hcl⟩ := H.out.hcells (by omega)
      obtain ⟨x, hx⟩ : ∃ x, l[k]? = some x := ⟨l[k], by simp [hlt]⟩
      have c1 := hcl k hlt
      rw [show l.getD k 0 = x from by simp [List.getD, hx]] at c1
      have hx1 := hbit.out x (List.mem_of_getElem? hx)
      have hts : tellS (l.take (k + 1)) = (2 * (tellS (l.take k)).1 + ((tellS (l.take k)).2 + x) % 2, ((tellS (l.take k)).2 + x) % 2) := by rw [take_snoc' hx, tellS_snoc]
      have ho := tellS_odd (l.take k)
      have ht8 : (tellS (l.take k)).1 < 8 := by
        have := tellS_lt (l.take k)
        have h4 := H4.out
        rw [List.length_take, Nat.min_eq_left (by omega)] at this
        have : 2 ^ k ≤ 2 ^ 3 := Nat.pow_le_pow_right (by omega) (by omega)
        omega
      have e1 := xor01 _ x ho hx1
      have e2 := or01 _ (((tellS (l.take k)).2 + x) % 2) ht8 (by omega)
      have HTS := Lib.hid hts
      clear hts hcl hx
      generalize (tellS (l.take k)).1 = T at *
      generalize (tellS (l.take k)).2 = O at *
      obtain ⟨O2, hO2⟩ : ∃ O2, O2 = (O + x) % 2 := ⟨_, rfl⟩
      have hO3 : O2 ≤ 1 := by omega
      rw [← hO2] at e1 e2 HTS
      have E1 := Lib.hid e1
      have E2 := Lib.hid e2
      clear e1 e2 hO2
      go_wp2
      go_round
      case rel => exact ⟨k + 1, by omega, by go_num, by rw [HTS.out]; simp only [E1.out, E2.out], by rw [HTS.out]; simp only [E1.out]⟩
      case measure => simp [intOf]; omega
    · obtain rfl : k = l.length := by omega
      rw [List.take_of_length_le (Nat.le_refl _)]
      have ht := tellS_lt l
      rw [H4.out] at ht
      obtain ⟨T, hT⟩ : ∃ T, (tellS l).1 = T := ⟨_, rfl⟩
      rw [hT] at ht ⊢
      rcases HA.out with ⟨q1, hN, rfl⟩ | ⟨q1, hN, rfl⟩
      · rw [q1]
        subst hN
        clear q1 HA hT
        go_wp2
        go_ret2
        exact ⟨rfl, Nb.rfl⟩
      · rw [q1]
        rw [hT] at hN
        have HN : Hid ((N : Int) = (T : Int) / 2) := Lib.hid (by rw [hN]; push_cast; rfl)
        clear q1 HA hT hN
        go_wp2
        go_ret2
        exact ⟨by rw [HN.out]; rfl, Nb.rfl⟩

theorem tells_u (a : Option Addr) (cap : Nat) (l : List Nat) (w : World) (h : Bs w a cap l) :
    Calls Try.prog 20 #[.slice a l.length cap] w fun e w' => e = .returned (.tuple #[.int .i64 (tlN l), .int .i64 (tlE l)]) ∧ Nb w w' := by
  cases hb : tlOk l with
  | false =>
    have e : tlE l = 2 := by simp [tlE, hb]
    have e2 : tlN l = 0 := by simp [tlN, e]
    rw [e, e2]
    exact tells_bad a cap l w h hb
  | true =>
    have hb' := hb
    simp only [tlOk, Bool.and_eq_true, decide_eq_true_eq] at hb
    refine tells_ok a cap l w h hb.1 hb.2 _ _ ?_
    have ho := tellS_odd l
    by_cases h1 : (tellS l).2 = 1
    · have e : tlE l = 6 := by simp [tlE, hb', h1]
      exact .inl ⟨h1, by simp [tlN, e], e⟩
    · have e : tlE l = 0 := by simp [tlE, hb', h1]
      exact .inr ⟨by omega, by simp [tlN, e], e⟩
end Go.Proofs.Ytjccmnmjbffikaa
