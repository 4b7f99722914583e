
/- What waits in a heap: container/heap's Push, Pop and Remove over it. Condition: at most a thousand. -/
import Derived.Test.YtkofdbccdfpllaaDoorHoS
import Derived.Test.YtkofdbccdfpllaaDoorHoR
namespace Go.Proofs.YtkofdbccdfpllaaDoor
set_option linter.unusedVariables false
set_option linter.unusedSimpArgs false
open Go.RowKit Go.Sort

/-- One taken: what is left. -/
structure TookP (w w' : World) (R : Nat) (v : Value) (l : List (Nat × Nat)) (x : Nat × Nat) (n : Nat) (v' : Value) (l' : List (Nat × Nat)) : Prop where
  at' : HeP w' R v' l'
  len : l'.length = n
  perm : l.Perm (x :: l')
  heap : HeQ d0 id allQ l' l'.length
  own : v'.ownBlock = v.ownBlock
  kp : Kp (fun k => k = R ∨ v.ownBlock = some k) w w'

theorem HeP.len {w : World} {R : Nat} {v : Value} {l : List (Nat × Nat)} (h : HeP w R v l) (w' : World) (n : Nb w w') : Calls Tryd.prog 43 #[.pointer (some ⟨R, 0, none⟩)] w' fun e w2 => e = .returned (.int .i64 (l.length : Nat)) ∧ w2 = w' := hlenP_any R v l w' (h.nb n)

set_option maxHeartbeats 3200000 in
set_option maxRecDepth 100000 in
theorem hhpushP_any (R : Nat) (v : Value) (l : List (Nat × Nat)) (p : Nat × Nat) (w : World) (h : HeP w R v l) (hl : l.length + 1 ≤ 1000) (hh : HeQ d0 id allQ l l.length) :
    Calls Tryd.prog 32 #[.iface 60 (.pointer (some ⟨R, 0, none⟩)), .iface 48 (.agg (enP p).toArray)] w fun e w' => e = .returned (.tuple #[]) ∧ ∃ v' l', HeP w' R v' l' ∧ l'.Perm (l ++ [p]) ∧ HeQ d0 id allQ l' l'.length ∧ (∀ g, v'.ownBlock = some g → v.ownBlock = some g ∨ w.heap.size ≤ g) ∧ Kp (fun k => k = R ∨ v.ownBlock = some k) w w' := by
  have HU := Lib.hid (hpushP_any R v l p w h hl)
  have hUp := UpG.push d0 id p hh
  have hlen : (l ++ [p]).length = l.length + 1 := by simp
  have HN := Lib.hid (fun v' w' (hp : HeP w' R v' (l ++ [p])) => hlenP_any R v' _ w' hp)
  have HP := Lib.hid (fun v' w' (hp : HeP w' R v' (l ++ [p])) => hupP_any R v' (l ++ [p]) (l.length + 1) l.length w' hp (by omega) (by omega) (by omega) hUp)
  have mN := mthHP_Len R
  have cN := cfHP_Len
  have mU := mthHP_Push R
  have cU := cfHP_Push
  have HL := Lib.hid hlen
  rw [hlen] at HN
  generalize (enP p).toArray = u at HU ⊢
  clear h hh hUp hlen
  have e1 : ((l.length + 1 : Nat) : Int) - 1 = (l.length : Int) := by omega
  go_enter Tryd.func32, Tryd.ntmps32
  go_wp2_with fail
  refine HU.out.mono ?_
  rintro e w1 ⟨rfl, v1, p1, g1, k1⟩
  have P1 := Lib.hid p1
  have G1 := Lib.hid g1
  have K1 := Lib.hid k1
  clear p1 g1 k1
  go_wp2_with fail
  refine (HN.out v1 w1 P1.out).mono ?_
  rintro e w2 ⟨rfl, rfl⟩
  go_wp2_with fail
  refine (HP.out v1 _ P1.out).mono ?_
  rintro e w3 ⟨rfl, l2, q1, q2, q3, q4, q5, q6⟩
  have Q1 := Lib.hid q1
  have Q2 := Lib.hid (q2.trans HL.out)
  have Q3 := Lib.hid q3
  have Q5 := Lib.hid q5
  have K3 := Lib.hid (K1.out.tr q6 (fun k e => (G1.out k e).imp .inr id))
  clear q1 q2 q3 q4 q5 q6
  go_wp2
  go_end0
  exact ⟨rfl, v1, l2, Q1.out, Q3.out, by rw [Q2.out]; exact Q5.out, G1.out, K3.out⟩

set_option maxHeartbeats 3200000 in
set_option maxRecDepth 100000 in
theorem hhpopP_any (R : Nat) (v : Value) (l : List (Nat × Nat)) (n : Nat) (w : World) (h : HeP w R v l) (hn : l.length = n + 1) (hl : l.length ≤ 1000) (hh : HeQ d0 id allQ l l.length) :
    Calls Tryd.prog 21 #[.iface 60 (.pointer (some ⟨R, 0, none⟩))] w fun e w' => e = .returned (.iface 48 (.agg (enP (l.getD 0 d0)).toArray)) ∧ ∃ v' l', TookP w w' R v l (l.getD 0 d0) n v' l' := by
  have HLn := Lib.hid (fun w' (n : Nb w w') => hlenP_any R v l w' (h.nb n))
  have HSw := Lib.hid (hswapP_any R v l w h 0 n (by omega) (by omega) hl)
  have hsl := gsw_len d0 l 0 n
  have g := gsw_get d0 l (i := 0) (j := n) (by omega) (by omega)
  have hg0 : (gsw d0 l 0 n).getD n d0 = l.getD 0 d0 := by rw [g, if_pos rfl]
  have hperm := gsw_perm d0 l (i := 0) (j := n) (by omega) (by omega)
  have HD := Lib.hid (fun w' (hp : HeP w' R v (gsw d0 l 0 n)) => hdownP_any R v allQ (gsw d0 l 0 n) n 0 w' hp (by omega) (by omega) (by omega) (.inr rfl) (fun _ _ _ => trivial) (fun c h1 h2 _ h4 => by
    rw [g, if_neg (by omega), if_neg h4, g, if_neg (by omega), if_neg (by omega)]
    exact hh c h1 (by omega) trivial))
  have HP := Lib.hid (fun w' l2 (hp : HeP w' R v l2) (h2 : l2.length = n + 1) => hpopP_any R v l2 n w' hp h2 (by omega))
  have HG := Lib.hid hg0
  have HPm := Lib.hid hperm
  have HSL := Lib.hid hsl
  have HN := Lib.hid hn
  have mN := mthHP_Len R
  have cN := cfHP_Len
  have mS := mthHP_Swap R
  have cS := cfHP_Swap
  have mP := mthHP_Pop R
  have cP := cfHP_Pop
  rw [hn] at hl
  clear h hg0 hperm hsl g hh
  rw [hn] at HLn
  clear hn
  go_enter Tryd.func21, Tryd.ntmps21
  go_wp2_with fail
  refine (HLn.out _ Nb.rfl).mono ?_
  rintro e w1 ⟨rfl, rfl⟩
  go_wp2_with fail
  refine HSw.out.mono ?_
  rintro e w2 ⟨rfl, p1, k1⟩
  have P1 := Lib.hid p1
  have K1 := Lib.hid k1
  clear p1 k1
  go_wp2_with fail
  refine (HD.out _ P1.out).mono ?_
  rintro e w3 ⟨b, rfl, l2, i2, q1, q2, q3, q4, q5, q6⟩
  have Q1 := Lib.hid q1
  have Q2 := Lib.hid ((q2.len.trans HSL.out).trans HN.out)
  have Q3 := Lib.hid (q2.perm.trans HPm.out)
  have Q4 := Lib.hid ((q2.rest n (Nat.le_refl _)).trans HG.out)
  have Q5 := Lib.hid q4
  have K2 := Lib.hid (K1.out.tr q6 (fun _ h => .inl h))
  clear q1 q2 q3 q4 q5 q6
  go_wp2_with fail
  refine (HP.out _ l2 Q1.out Q2.out).mono ?_
  rintro e w4 ⟨rfl, v4, p3, o3, k3⟩
  have P3 := Lib.hid p3
  have O3 := Lib.hid o3
  have LO := Lib.hid (glast_of d0 Q2.out)
  generalize l2.getD n d0 = pe at Q4 LO ⊢
  have K3 := Lib.hid ((K2.out.mono (F' := fun k => k = R ∨ v.ownBlock = some k) (fun _ _ h => .inr h)).tr k3 (fun _ h => .inl h))
  clear p3 o3 k3
  go_wp2
  go_ret
  have hlen : (l2.take n).length = n := by rw [List.length_take, Q2.out]; omega
  refine ⟨by rw [Q4.out]; rfl, v4, l2.take n, ⟨P3.out, hlen, ?_, ?_, O3.out, K3.out⟩⟩
  · have e := LO.out
    rw [Q4.out] at e
    have h1 := Q3.out.symm
    rw [e] at h1
    exact h1.trans List.perm_append_comm
  · exact gtake_heap d0 id Q5.out (by have := Q2.out; omega)

end Go.Proofs.YtkofdbccdfpllaaDoor
