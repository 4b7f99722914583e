
/- The program's heap of places: container/heap's Pop over it; the first place taken. Condition: at most a thousand places. -/
import Derived.Test.YtfcmoamooafomaaDoorHpD
namespace Go.Proofs.YtfcmoamooafomaaDoor
set_option linter.unusedVariables false
set_option linter.unusedSimpArgs false
open Go.RowKit

theorem last_of {l : List (Nat × Nat)} {n : Nat} (h : l.length = n + 1) : l = l.take n ++ [l.getD n d0] := by
  have e := List.take_append_drop n l
  have e2 : l.drop n = [l.getD n d0] := by
    rw [List.drop_eq_getElem_cons (by omega), List.drop_eq_nil_of_le (by omega)]
    simp [List.getD, show n < l.length by omega]
  rw [e2] at e
  exact e.symm
/-- One taken: what is left. -/
structure Took (w w' : World) (R G : Nat) (a : Option Addr) (cap : Nat) (l l' : List (Nat × Nat)) (n : Nat) : Prop where
  pl : PlAt w' R G a cap l'
  len : l'.length = n
  perm : l.Perm (l.getD 0 d0 :: l')
  heap : HpF l' l'.length 0
  kp : Kp (fun k => k = G ∨ k = R) w w'

set_option maxHeartbeats 3200000 in
set_option maxRecDepth 100000 in
theorem hpop_any (R G : Nat) (a : Option Addr) (cap : Nat) (l : List (Nat × Nat)) (n : Nat) (w : World) (h : PlAt w R G a cap l) (hn : l.length = n + 1) (hl : l.length ≤ 1000) (hh : HpF l l.length 0) :
    Calls Tryd.prog 43 #[.iface 53 (.pointer (some ⟨R, 0, none⟩))] w fun e w' => e = .returned (.iface 67 (.agg #[.int .u64 ((l.getD 0 d0).1 : Nat), .int .i64 ((l.getD 0 d0).2 : Nat)])) ∧ ∃ l', Took w w' R G a cap l l' n := by
  have HLn := Lib.hid (fun w' (n : Nb w w') => plen_any R G a cap l w' (h.nb n))
  have HSw := Lib.hid (pswap_all R G a cap l w h 0 n (by omega) (by omega) hl)
  have hsl := swp_len l 0 n
  have g := swp_get l (i := 0) (j := n) (by omega) (by omega)
  have hg0 : (swp l 0 n).getD n d0 = l.getD 0 d0 := by rw [g, if_pos rfl]
  have hF0 : HpF l n (0 + 1) := fun c h1 h2 h3 => hh c h1 (by omega) (Nat.zero_le _)
  have hF1 : HpF (swp l 0 n) n (0 + 1) := hF0.congr (fun k h1 h2 => by rw [g, if_neg (by omega), if_neg (by omega)])
  have hperm := swp_perm l (i := 0) (j := n) (by omega) (by omega)
  have HD := Lib.hid (fun w' (hp : PlAt w' R G a cap (swp l 0 n)) => down_any R G a cap (swp l 0 n) n 0 w' hp (by omega) (by omega) (by omega) hF1)
  have HP := Lib.hid (fun w' l2 (hp : PlAt w' R G a cap l2) (h2 : l2.length = n + 1) => ppop_any R G a cap l2 n w' hp h2 (by omega))
  have HG := Lib.hid hg0
  have HPm := Lib.hid hperm
  have HSL := Lib.hid hsl
  have HN := Lib.hid hn
  have mN := mth_Len R
  have cN := cf_Len
  have mS := mth_Swap R
  have cS := cf_Swap
  have mP := mth_Pop R
  have cP := cf_Pop
  rw [hn] at hl
  clear h hg0 hperm hsl g hF1 hF0 hh
  rw [hn] at HLn
  clear hn
  go_enter Tryd.func43, Tryd.ntmps43
  go_wp2_with fail
  refine (HLn.out _ Nb.rfl).mono ?_
  rintro e w1 ⟨rfl, rfl⟩
  go_wp2_with fail
  refine HSw.out.mono ?_
  rintro e w1 ⟨rfl, p1, k1⟩
  have P1 := Lib.hid p1
  have K1 := Lib.hid k1
  clear p1 k1
  go_wp2_with fail
  refine (HD.out _ P1.out).mono ?_
  rintro e w2 ⟨⟨b, rfl⟩, l2, q1, q2, q3, q4, q5, q6, q7⟩
  have Q1 := Lib.hid q1
  have Q2 := Lib.hid ((q2.trans HSL.out).trans HN.out)
  have Q3 := Lib.hid (q3.trans HPm.out)
  have Q4 := Lib.hid ((q4 n (Nat.le_refl _)).trans HG.out)
  have Q6 := Lib.hid q6
  have K2 := Lib.hid (K1.out.tr q7 (fun _ h => .inl h))
  clear q1 q2 q3 q4 q5 q6 q7
  go_wp2_with fail
  refine (HP.out _ l2 Q1.out Q2.out).mono ?_
  rintro e w3 ⟨rfl, p3, k3⟩
  have P3 := Lib.hid p3
  have LO := Lib.hid (last_of Q2.out)
  generalize l2.getD n d0 = pe at Q4 LO ⊢
  have K3 := Lib.hid ((K2.out.mono (F' := fun k => k = G ∨ k = R) (fun _ _ h => .inl h)).tr k3 (fun _ h => .inl (.inr h)))
  clear p3 k3
  go_wp2
  go_ret
  have hlen : (l2.take n).length = n := by rw [List.length_take, Q2.out]; omega
  refine ⟨by rw [Q4.out]; rfl, l2.take n, P3.out, hlen, ?_, ?_, K3.out⟩
  · have e := LO.out
    rw [Q4.out] at e
    have h1 := Q3.out.symm
    rw [e] at h1
    exact h1.trans List.perm_append_comm
  · rw [hlen]
    exact Q6.out.congr (fun k _ hk => by simp [List.getD, hk])

set_option maxHeartbeats 1600000 in
set_option maxRecDepth 100000 in
theorem take10_any (R G : Nat) (a : Option Addr) (cap : Nat) (l : List (Nat × Nat)) (n : Nat) (w : World) (h : PlAt w R G a cap l) (hn : l.length = n + 1) (hl : l.length ≤ 1000) (hh : HpF l l.length 0) :
    Calls Tryd.prog 30 #[.pointer (some ⟨R, 0, none⟩)] w fun e w' => e = .returned (.int .i64 ((l.getD 0 d0).2 : Nat)) ∧ ∃ l', Took w w' R G a cap l l' n := by
  have HP := Lib.hid (hpop_any R G a cap l n w h hn hl hh)
  clear h hn hl hh
  generalize l.getD 0 d0 = p at HP ⊢
  go_enter Tryd.func30, Tryd.ntmps30
  go_wp2_with fail
  refine HP.out.mono ?_
  rintro e w1 ⟨rfl, t1⟩
  have T1 := Lib.hid t1
  clear t1
  have rT : ∀ w, (Instr.typeAssert (.iface 67 (.agg #[.int .u64 (p.1 : Nat), .int .i64 (p.2 : Nat)])) 20 67 false).run Tryd.prog w = .ok (.agg #[.int .u64 (p.1 : Nat), .int .i64 (p.2 : Nat)]) w := fun _ => by kernel_rfl
  have rF : ∀ w, (Instr.field 67 (.agg #[.int .u64 (p.1 : Nat), .int .i64 (p.2 : Nat)]) 1).run Tryd.prog w = .ok (.int .i64 (p.2 : Nat)) w := fun _ => by kernel_rfl
  go_wp2
  go_ret
  exact ⟨rfl, T1.out⟩
end Go.Proofs.YtfcmoamooafomaaDoor
