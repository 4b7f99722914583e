
/- The program's keys of frames: flag, short, long, Key, Compare. Condition: the table of longer sizes holds what the program's text lays there. -/
import Derived.Test.YtfcmoamooafomaaDoorOrP
import Derived.Test.YtfcmoamooafomaaDoorFrmK
namespace Go.Proofs.YtfcmoamooafomaaDoor
set_option linter.unusedVariables false
set_option linter.unusedSimpArgs false
open Go.RowKit

set_option maxHeartbeats 400000 in
theorem flag10_any (b : Bool) (w : World) : Calls Tryd.prog 38 #[.bool b] w fun e w' => e = .returned (.int .u64 (bitB b : Nat)) ∧ w' = w := by
  cases b
  all_goals go_enter Tryd.func38, Tryd.ntmps38
  all_goals go_wp2
  all_goals go_ret
  all_goals exact ⟨rfl, rfl⟩

theorem or64 (a b i : Nat) (ha : a < 9223372036854775808) (hb : b < 2 ^ i) (hi : 2 ^ i ≤ 9223372036854775808) (h0 : a % 2 ^ i = 0) : bits BinOp.or IntKind.u64 (a : Int) (b : Int) = ((a + b : Nat) : Int) := by
  rw [bits_or_u64_nat a b (by omega) (by omega), or_add a b i hb h0]
theorem wrapB (b : Bool) : IntKind.u64.wrap ((bitB b : Int) * 4194304) = ((bitB b * 4194304 : Nat) : Int) ∧ IntKind.u64.wrap ((bitB b : Int) * 1048576) = ((bitB b * 1048576 : Nat) : Int) ∧
    IntKind.u64.wrap ((bitB b : Int) * 524288) = ((bitB b * 524288 : Nat) : Int) ∧ IntKind.u64.wrap ((bitB b : Int) * 4) = ((bitB b * 4 : Nat) : Int) := by
  cases b <;> decide +kernel
theorem orS (K : Int) (R : Bool) (i : Nat) (hi : i < 2048) :
    bits BinOp.or IntKind.u64 (bits BinOp.or IntKind.u64 (bits BinOp.or IntKind.u64 ((i : Int) * 8388608) (IntKind.u64.wrap ((bitB R : Int) * 4194304))) (IntKind.u64.wrap ((bitB (K != 1) : Int) * 1048576))) (IntKind.u64.wrap ((bitB (K == 3) : Int) * 524288)) = ((keyS K R i : Nat) : Int) := by
  have h1 := bitB_le R
  have h2 := bitB_le (K != 1)
  have h3 := bitB_le (K == 3)
  rw [(wrapB R).1, (wrapB (K != 1)).2.1, (wrapB (K == 3)).2.2.1]
  unfold keyS
  generalize bitB R = r at *
  generalize bitB (K != 1) = n at *
  generalize bitB (K == 3) = x at *
  have e0 : (i : Int) * 8388608 = ((i * 8388608 : Nat) : Int) := by omega
  rw [e0, or64 (i * 8388608) (r * 4194304) 23 (by omega) (by omega) (by omega) (by omega), or64 (i * 8388608 + r * 4194304) (n * 1048576) 22 (by omega) (by omega) (by omega) (by omega),
    or64 (i * 8388608 + r * 4194304 + n * 1048576) (x * 524288) 20 (by omega) (by omega) (by omega) (by omega)]
theorem orX (R : Bool) (i : Nat) (hi : i < 536870912) :
    bits BinOp.or IntKind.u64 (bits BinOp.or IntKind.u64 (bits BinOp.or IntKind.u64 (bits BinOp.or IntKind.u64 ((i : Int) / 262144 * 8388608) 4194304) 2097152) ((i : Int) % 262144 * 8)) (IntKind.u64.wrap ((bitB R : Int) * 4)) = ((keyX R i : Nat) : Int) := by
  have h1 := bitB_le R
  rw [(wrapB R).2.2.2]
  unfold keyX
  generalize bitB R = r at *
  obtain ⟨q, hq⟩ : ∃ q : Nat, q = i / 262144 := ⟨_, rfl⟩
  obtain ⟨m, hm⟩ : ∃ m : Nat, m = i % 262144 := ⟨_, rfl⟩
  obtain ⟨c, hc⟩ : ∃ c : Nat, c = 4194304 := ⟨_, rfl⟩
  obtain ⟨d, hd⟩ : ∃ d : Nat, d = 2097152 := ⟨_, rfl⟩
  have e0 : (i : Int) / 262144 * 8388608 = ((q * 8388608 : Nat) : Int) := by omega
  have e1 : (i : Int) % 262144 * 8 = ((m * 8 : Nat) : Int) := by omega
  have e2 : (4194304 : Int) = (c : Int) := by omega
  have e3 : (2097152 : Int) = (d : Int) := by omega
  have o1 := or64 (q * 8388608) c 23 (by omega) (by omega) (by omega) (by omega)
  have o2 := or64 (q * 8388608 + c) d 22 (by omega) (by omega) (by omega) (by omega)
  have o3 := or64 (q * 8388608 + c + d) (m * 8) 21 (by omega) (by omega) (by omega) (by omega)
  have o4 := or64 (q * 8388608 + c + d + m * 8) (r * 4) 3 (by omega) (by omega) (by omega) (by omega)
  rw [e0, e1, e2, e3, o1, o2, o3, o4, ← hq, ← hm]
  have : q * 8388608 + c + d + m * 8 + r * 4 = q * 8388608 + 6291456 + m * 8 + r * 4 := by omega
  rw [this]

set_option maxHeartbeats 1600000 in
set_option maxRecDepth 100000 in
theorem short_any (K : Int) (i : Nat) (X R B E S : Bool) (D V A : Int) (v : Value) (w : World) (hi : i < 2048) :
    Calls Tryd.prog 22 #[.agg #[.int .i64 K, .int .u32 (i : Nat), .bool X, .bool R, .bool B, .bool E, .bool S, .int .u8 D, .int .u8 V, .int .u32 A, v]] w fun e w' => e = .returned (.int .u64 (keyS K R i : Nat)) ∧ Nb w w' := by
  have HO := Lib.hid (orS K R i hi)
  go_enter Tryd.func22, Tryd.ntmps22
  go_wp2_with fail
  go_quiet ((go_at_call 38; exact Calls.quiet_of_same (flag10_any _ _)))
  go_wp2
  go_ret
  exact ⟨ret_int' HO.out, (Nb.rfl.al _).tr (Nb.drewN _ _)⟩

set_option maxHeartbeats 1600000 in
set_option maxRecDepth 100000 in
theorem long_any (K : Int) (i : Nat) (X R B E S : Bool) (D V A : Int) (v : Value) (w : World) (hi : i < 536870912) :
    Calls Tryd.prog 21 #[.agg #[.int .i64 K, .int .u32 (i : Nat), .bool X, .bool R, .bool B, .bool E, .bool S, .int .u8 D, .int .u8 V, .int .u32 A, v]] w fun e w' => e = .returned (.int .u64 (keyX R i : Nat)) ∧ Nb w w' := by
  have HO := Lib.hid (orX R i hi)
  go_enter Tryd.func21, Tryd.ntmps21
  go_wp2_with fail
  go_quiet ((go_at_call 38; exact Calls.quiet_of_same (flag10_any _ _)))
  go_wp2
  go_ret
  exact ⟨ret_int' HO.out, (Nb.rfl.al _).tr (Nb.drewN _ _)⟩

/-- A key and an error. -/
def AnsK (f : Hd) (l : List Nat) (e : Ending) : Prop := e = .returned (.tuple #[.int .u64 (keyV f l : Nat), .int .i64 (checkN f l : Nat)])
set_option maxHeartbeats 1600000 in
set_option maxRecDepth 100000 in
theorem key_any (f : Hd) (a : Option Addr) (cap : Nat) (l : List Nat) (w : World) (h : Bs w a cap l) (hI : 0 ≤ f.I) (hl : Longer w) :
    Calls Tryd.prog 10 #[.agg (f.cs (.slice a l.length cap))] w fun e w' => AnsK f l e ∧ Nb w w' := by
  have hL := h.len
  have F0 := Lib.hid (fun w' (n : Nb w w') => check5_any f a cap l w' (h.below n) (hl.below n))
  unfold AnsK
  cases hok : okF f l with
  | false =>
    rw [show checkN f l = 2 by simp [checkN, hok]] at F0 ⊢
    rw [show keyV f l = 0 by simp [keyV, hok]]
    obtain ⟨K, I, X, R, B, E, S, D, V, A⟩ := f
    simp only [Hd.cs] at F0 ⊢
    have Q0 := Lib.hid (Blk.new w #[.int .i64 K, .int .u32 I, .bool X, .bool R, .bool B, .bool E, .bool S, .int .u8 D, .int .u8 V, .int .u32 A, .slice a l.length cap] 25)
    clear h hl hok hI
    go_enter Tryd.func10, Tryd.ntmps10
    go_wp2_with fail
    refine (F0.out _ (Nb.rfl.al _)).mono ?_
    rintro e w1 ⟨rfl, n1⟩
    go_wp2
    go_ret2
    exact ⟨rfl, (Nb.rfl.al _).tr n1⟩
  | true =>
    rw [show checkN f l = 0 by simp [checkN, hok]] at F0 ⊢
    have hs := shp_of hok hI
    rw [show keyV f l = keyF f by simp [keyV, hok]]
    obtain ⟨K, I, X, R, B, E, S, D, V, A⟩ := f
    obtain ⟨i, rfl⟩ := Int.eq_ofNat_of_zero_le hI
    simp only [Hd.cs] at F0 ⊢
    have Q0 := Lib.hid (Blk.new w #[.int .i64 K, .int .u32 (i : Nat), .bool X, .bool R, .bool B, .bool E, .bool S, .int .u8 D, .int .u8 V, .int .u32 A, .slice a l.length cap] 25)
    cases X with
    | false =>
      have hi : i < 2048 := by
        cases hs with
        | cl _ _ hi => simpa using hi
        | cx _ hx _ => simp at hx
        | fd _ _ _ hi => simpa using hi
        | xl _ _ _ hi => simpa using hi
      have HS := Lib.hid (fun w => short_any K i false R B E S D V A (.slice a l.length cap) w hi)
      rw [show keyF ⟨K, (i : Nat), false, R, B, E, S, D, V, A⟩ = keyS K R i by simp [keyF]]
      clear h hl hok hI hs hi
      go_enter Tryd.func10, Tryd.ntmps10
      go_wp2_with fail
      refine (F0.out _ (Nb.rfl.al _)).mono ?_
      rintro e w1 ⟨rfl, n1⟩
      have N1 := Lib.hid ((Nb.rfl.al _).tr n1)
      obtain ⟨c0, c1, c2, c3, c4, c5, c6, c7, c8, c9, c10⟩ := (Q0.out.nb n1).c11
      clear n1
      go_wp2_with fail
      refine (HS.out _).mono ?_
      rintro e w2 ⟨rfl, n2⟩
      go_wp2
      go_ret2
      exact ⟨rfl, N1.out.tr n2⟩
    | true =>
      have hi : i < 536870912 := by
        cases hs with
        | cx _ _ hi => simpa using hi
        | cl _ hx _ => simp at hx
        | fd _ hx _ _ => simp at hx
        | xl _ hx _ _ => simp at hx
      have HS := Lib.hid (fun w => long_any K i true R B E S D V A (.slice a l.length cap) w hi)
      rw [show keyF ⟨K, (i : Nat), true, R, B, E, S, D, V, A⟩ = keyX R i by simp [keyF]]
      clear h hl hok hI hs hi
      go_enter Tryd.func10, Tryd.ntmps10
      go_wp2_with fail
      refine (F0.out _ (Nb.rfl.al _)).mono ?_
      rintro e w1 ⟨rfl, n1⟩
      have N1 := Lib.hid ((Nb.rfl.al _).tr n1)
      obtain ⟨c0, c1, c2, c3, c4, c5, c6, c7, c8, c9, c10⟩ := (Q0.out.nb n1).c11
      clear n1
      go_wp2_with fail
      refine (HS.out _).mono ?_
      rintro e w2 ⟨rfl, n2⟩
      go_wp2
      go_ret2
      exact ⟨rfl, N1.out.tr n2⟩
end Go.Proofs.YtfcmoamooafomaaDoor
