
/- Layer 15 as lists: rules, banks, the first rule that is of a frame, the least bank. No program. -/
import Derived.Test.YtaohmgklhecjbaaDoorGj
import Derived.Laws.Bits64b
namespace Go.Proofs.YtaohmgklhecjbaaDoor
set_option linter.unusedVariables false
set_option linter.unusedSimpArgs false
open Go.RowKit

/-- A rule. -/
structure Rl where
  K : Int
  I : Int
  IM : Int
  S : Int
  SM : Int
  V : Int
  VM : Int
  A : Int
  AM : Int
  N : Bool
abbrev dRl : Rl := ⟨0, 0, 0, 0, 0, 0, 0, 0, 0, false⟩
def Rl.ca (r : Rl) : Array Value := #[.int .i64 r.K, .int .u32 r.I, .int .u32 r.IM, .int .u8 r.S, .int .u8 r.SM, .int .u8 r.V, .int .u8 r.VM, .int .u32 r.A, .int .u32 r.AM, .bool r.N]
def Rl.cs (r : Rl) : List Value := [.int .i64 r.K, .int .u32 r.I, .int .u32 r.IM, .int .u8 r.S, .int .u8 r.SM, .int .u8 r.V, .int .u8 r.VM, .int .u32 r.A, .int .u32 r.AM, .bool r.N]
/-- The fields' own widths. -/
structure WdR (r : Rl) : Prop where
  K : (Lit.int .i64 r.K).wf = true
  I : 0 ≤ r.I ∧ r.I < 4294967296
  IM : 0 ≤ r.IM ∧ r.IM < 4294967296
  S : 0 ≤ r.S ∧ r.S < 256
  SM : 0 ≤ r.SM ∧ r.SM < 256
  V : 0 ≤ r.V ∧ r.V < 256
  VM : 0 ≤ r.VM ∧ r.VM < 256
  A : 0 ≤ r.A ∧ r.A < 4294967296
  AM : 0 ≤ r.AM ∧ r.AM < 4294967296
theorem wf32 {a : Int} (h : (Lit.int .u32 a).wf = true) : 0 ≤ a ∧ a < 4294967296 := by
  simp [Lit.wf, IntKind.min, IntKind.max, IntKind.signed, IntKind.bits] at h
  omega
theorem wf8 {a : Int} (h : (Lit.int .u8 a).wf = true) : 0 ≤ a ∧ a < 256 := by
  simp [Lit.wf, IntKind.min, IntKind.max, IntKind.signed, IntKind.bits] at h
  omega

/-! Bits. -/
theorem wrapU32 (x : Int) : IntKind.u32.wrap x = x % 4294967296 := by simp [IntKind.wrap, IntKind.signed, IntKind.bits, Int.emod_emod_of_dvd]
theorem wrapU8 (x : Int) : IntKind.u8.wrap x = x % 256 := by simp [IntKind.wrap, IntKind.signed, IntKind.bits, Int.emod_emod_of_dvd]
theorem bAnd32_lt (a b : Nat) (ha : a < 2 ^ 32) (hb : b < 2 ^ 32) : a &&& b < 2 ^ 32 := Nat.and_lt_two_pow _ hb
theorem bXor32_lt (a b : Nat) (ha : a < 2 ^ 32) (hb : b < 2 ^ 32) : a ^^^ b < 2 ^ 32 := Nat.xor_lt_two_pow ha hb
theorem bAnd8_lt (a b : Nat) (ha : a < 2 ^ 8) (hb : b < 2 ^ 8) : a &&& b < 2 ^ 8 := Nat.and_lt_two_pow _ hb
theorem bXor8_lt (a b : Nat) (ha : a < 2 ^ 8) (hb : b < 2 ^ 8) : a ^^^ b < 2 ^ 8 := Nat.xor_lt_two_pow ha hb
theorem bAnd32 (a b : Nat) (ha : a < 4294967296) (hb : b < 4294967296) : bits BinOp.and IntKind.u32 (a : Int) (b : Int) = ((a &&& b : Nat) : Int) := by
  have hx : a &&& b < 2 ^ 32 := bAnd32_lt a b (by omega) (by omega)
  have h1 : (BitVec.ofInt 32 (a : Int)).toNat = a := by
    rw [BitVec.ofInt_natCast, BitVec.toNat_ofNat]; exact Nat.mod_eq_of_lt (by omega)
  have h2 : (BitVec.ofInt 32 (b : Int)).toNat = b := by
    rw [BitVec.ofInt_natCast, BitVec.toNat_ofNat]; exact Nat.mod_eq_of_lt (by omega)
  show IntKind.u32.wrap ((BitVec.ofInt 32 (a : Int) &&& BitVec.ofInt 32 (b : Int)).toNat : Int) = _
  rw [BitVec.toNat_and, h1, h2, wrapU32]
  omega
theorem bXor32 (a b : Nat) (ha : a < 4294967296) (hb : b < 4294967296) : bits BinOp.xor IntKind.u32 (a : Int) (b : Int) = ((a ^^^ b : Nat) : Int) := by
  have hx : a ^^^ b < 2 ^ 32 := bXor32_lt a b (by omega) (by omega)
  have h1 : (BitVec.ofInt 32 (a : Int)).toNat = a := by
    rw [BitVec.ofInt_natCast, BitVec.toNat_ofNat]; exact Nat.mod_eq_of_lt (by omega)
  have h2 : (BitVec.ofInt 32 (b : Int)).toNat = b := by
    rw [BitVec.ofInt_natCast, BitVec.toNat_ofNat]; exact Nat.mod_eq_of_lt (by omega)
  show IntKind.u32.wrap ((BitVec.ofInt 32 (a : Int) ^^^ BitVec.ofInt 32 (b : Int)).toNat : Int) = _
  rw [BitVec.toNat_xor, h1, h2, wrapU32]
  omega
theorem bAnd8 (a b : Nat) (ha : a < 256) (hb : b < 256) : bits BinOp.and IntKind.u8 (a : Int) (b : Int) = ((a &&& b : Nat) : Int) := by
  have hx : a &&& b < 2 ^ 8 := bAnd8_lt a b (by omega) (by omega)
  have h1 : (BitVec.ofInt 8 (a : Int)).toNat = a := by
    rw [BitVec.ofInt_natCast, BitVec.toNat_ofNat]; exact Nat.mod_eq_of_lt (by omega)
  have h2 : (BitVec.ofInt 8 (b : Int)).toNat = b := by
    rw [BitVec.ofInt_natCast, BitVec.toNat_ofNat]; exact Nat.mod_eq_of_lt (by omega)
  show IntKind.u8.wrap ((BitVec.ofInt 8 (a : Int) &&& BitVec.ofInt 8 (b : Int)).toNat : Int) = _
  rw [BitVec.toNat_and, h1, h2, wrapU8]
  omega
theorem bXor8 (a b : Nat) (ha : a < 256) (hb : b < 256) : bits BinOp.xor IntKind.u8 (a : Int) (b : Int) = ((a ^^^ b : Nat) : Int) := by
  have hx : a ^^^ b < 2 ^ 8 := bXor8_lt a b (by omega) (by omega)
  have h1 : (BitVec.ofInt 8 (a : Int)).toNat = a := by
    rw [BitVec.ofInt_natCast, BitVec.toNat_ofNat]; exact Nat.mod_eq_of_lt (by omega)
  have h2 : (BitVec.ofInt 8 (b : Int)).toNat = b := by
    rw [BitVec.ofInt_natCast, BitVec.toNat_ofNat]; exact Nat.mod_eq_of_lt (by omega)
  show IntKind.u8.wrap ((BitVec.ofInt 8 (a : Int) ^^^ BitVec.ofInt 8 (b : Int)).toNat : Int) = _
  rw [BitVec.toNat_xor, h1, h2, wrapU8]
  omega
/-- Are two numbers one in all bits that a mask has? -/
def al32 (a b m : Int) : Bool := bits BinOp.and IntKind.u32 (bits BinOp.xor IntKind.u32 a b) m == 0
def al8 (a b m : Int) : Bool := bits BinOp.and IntKind.u8 (bits BinOp.xor IntKind.u8 a b) m == 0
theorem and_xor_zero (a b m : Nat) : ((a ^^^ b) &&& m = 0) ↔ (a &&& m = b &&& m) := by
  rw [Nat.and_xor_distrib_right]
  refine ⟨fun h => ?_, fun h => by rw [h, Nat.xor_self]⟩
  have e : a &&& m = ((a &&& m) ^^^ (b &&& m)) ^^^ (b &&& m) := by rw [Nat.xor_assoc, Nat.xor_self, Nat.xor_zero]
  rw [e, h, Nat.zero_xor]
theorem al32_nat {a b m : Nat} (ha : a < 4294967296) (hb : b < 4294967296) (hm : m < 4294967296) : al32 a b m = decide (a &&& m = b &&& m) := by
  have hx : a ^^^ b < 2 ^ 32 := Nat.xor_lt_two_pow (by omega) (by omega)
  unfold al32
  rw [bXor32 a b ha hb, bAnd32 (a ^^^ b) m (by omega) hm, Bool.eq_iff_iff, beq_iff_eq, decide_eq_true_iff, ← and_xor_zero]
  omega
theorem al32_eq {a b m : Int} (ha : 0 ≤ a ∧ a < 4294967296) (hb : 0 ≤ b ∧ b < 4294967296) (hm : 0 ≤ m ∧ m < 4294967296) : al32 a b m = (bits BinOp.and IntKind.u32 a m == bits BinOp.and IntKind.u32 b m) := by
  obtain ⟨x, rfl⟩ := Int.eq_ofNat_of_zero_le ha.1
  obtain ⟨y, rfl⟩ := Int.eq_ofNat_of_zero_le hb.1
  obtain ⟨z, rfl⟩ := Int.eq_ofNat_of_zero_le hm.1
  rw [al32_nat (by omega) (by omega) (by omega), bAnd32 x z (by omega) (by omega), bAnd32 y z (by omega) (by omega), Bool.eq_iff_iff, beq_iff_eq, decide_eq_true_iff]
  omega
theorem al32_self {a m : Int} (ha : 0 ≤ a ∧ a < 4294967296) (hm : 0 ≤ m ∧ m < 4294967296) : al32 a a m = true := by
  rw [al32_eq ha ha hm]
  exact beq_self_eq_true _
theorem al32_zero {a b : Int} (ha : 0 ≤ a ∧ a < 4294967296) (hb : 0 ≤ b ∧ b < 4294967296) : al32 a b 0 = true := by
  obtain ⟨x, rfl⟩ := Int.eq_ofNat_of_zero_le ha.1
  obtain ⟨y, rfl⟩ := Int.eq_ofNat_of_zero_le hb.1
  have := al32_nat (a := x) (b := y) (m := 0) (by omega) (by omega) (by omega)
  rw [show ((0 : Nat) : Int) = 0 from rfl] at this
  rw [this]
  simp
theorem al32_whole {a b : Int} (ha : 0 ≤ a ∧ a < 4294967296) (hb : 0 ≤ b ∧ b < 4294967296) : al32 a b (4294967296 - 1) = (a == b) := by
  obtain ⟨x, rfl⟩ := Int.eq_ofNat_of_zero_le ha.1
  obtain ⟨y, rfl⟩ := Int.eq_ofNat_of_zero_le hb.1
  have := al32_nat (a := x) (b := y) (m := 4294967296 - 1) (by omega) (by omega) (by omega)
  rw [show (((4294967296 - 1 : Nat)) : Int) = 4294967296 - 1 from rfl] at this
  rw [this, Bool.eq_iff_iff, beq_iff_eq, decide_eq_true_iff]
  have e : ∀ z : Nat, z < 4294967296 → z &&& (4294967296 - 1) = z := fun z hz => by
    have := Nat.and_two_pow_sub_one_eq_mod z 32
    rw [show (4294967296 - 1 : Nat) = 2 ^ 32 - 1 from rfl, this]
    exact Nat.mod_eq_of_lt hz
  rw [e x (by omega), e y (by omega)]
  omega
theorem al8_nat {a b m : Nat} (ha : a < 256) (hb : b < 256) (hm : m < 256) : al8 a b m = decide (a &&& m = b &&& m) := by
  have hx : a ^^^ b < 2 ^ 8 := Nat.xor_lt_two_pow (by omega) (by omega)
  unfold al8
  rw [bXor8 a b ha hb, bAnd8 (a ^^^ b) m (by omega) hm, Bool.eq_iff_iff, beq_iff_eq, decide_eq_true_iff, ← and_xor_zero]
  omega
theorem al8_eq {a b m : Int} (ha : 0 ≤ a ∧ a < 256) (hb : 0 ≤ b ∧ b < 256) (hm : 0 ≤ m ∧ m < 256) : al8 a b m = (bits BinOp.and IntKind.u8 a m == bits BinOp.and IntKind.u8 b m) := by
  obtain ⟨x, rfl⟩ := Int.eq_ofNat_of_zero_le ha.1
  obtain ⟨y, rfl⟩ := Int.eq_ofNat_of_zero_le hb.1
  obtain ⟨z, rfl⟩ := Int.eq_ofNat_of_zero_le hm.1
  rw [al8_nat (by omega) (by omega) (by omega), bAnd8 x z (by omega) (by omega), bAnd8 y z (by omega) (by omega), Bool.eq_iff_iff, beq_iff_eq, decide_eq_true_iff]
  omega
theorem al8_self {a m : Int} (ha : 0 ≤ a ∧ a < 256) (hm : 0 ≤ m ∧ m < 256) : al8 a a m = true := by
  rw [al8_eq ha ha hm]
  exact beq_self_eq_true _
theorem al8_zero {a b : Int} (ha : 0 ≤ a ∧ a < 256) (hb : 0 ≤ b ∧ b < 256) : al8 a b 0 = true := by
  obtain ⟨x, rfl⟩ := Int.eq_ofNat_of_zero_le ha.1
  obtain ⟨y, rfl⟩ := Int.eq_ofNat_of_zero_le hb.1
  have := al8_nat (a := x) (b := y) (m := 0) (by omega) (by omega) (by omega)
  rw [show ((0 : Nat) : Int) = 0 from rfl] at this
  rw [this]
  simp
theorem al8_whole {a b : Int} (ha : 0 ≤ a ∧ a < 256) (hb : 0 ≤ b ∧ b < 256) : al8 a b (256 - 1) = (a == b) := by
  obtain ⟨x, rfl⟩ := Int.eq_ofNat_of_zero_le ha.1
  obtain ⟨y, rfl⟩ := Int.eq_ofNat_of_zero_le hb.1
  have := al8_nat (a := x) (b := y) (m := 256 - 1) (by omega) (by omega) (by omega)
  rw [show (((256 - 1 : Nat)) : Int) = 256 - 1 from rfl] at this
  rw [this, Bool.eq_iff_iff, beq_iff_eq, decide_eq_true_iff]
  have e : ∀ z : Nat, z < 256 → z &&& (256 - 1) = z := fun z hz => by
    have := Nat.and_two_pow_sub_one_eq_mod z 8
    rw [show (256 - 1 : Nat) = 2 ^ 8 - 1 from rfl, this]
    exact Nat.mod_eq_of_lt hz
  rw [e x (by omega), e y (by omega)]
  omega

/-! Rules and frames. -/
def mayR (r : Rl) : Bool := decide (1 ≤ r.K) && decide (r.K ≤ 7)
theorem mayR_iff (r : Rl) : mayR r = true ↔ 1 ≤ r.K ∧ r.K ≤ 7 := by simp [mayR]
def okB (l : List Rl) : Bool := decide (l.length ≤ 32) && l.all mayR
theorem okB_iff (l : List Rl) : okB l = true ↔ l.length ≤ 32 ∧ ∀ r ∈ l, mayR r = true := by simp [okB]
def bkE (l : List Rl) : Nat := if okB l then 0 else 2
/-- What Kinds has for a frame's kind. -/
def kindN (k : Int) : Int := if k = 1 then 1 else if k = 2 then 2 else if k = 3 then 4 else 0
def hasK (K k : Int) : Bool := bits BinOp.and IntKind.i64 K (kindN k) != 0
/-- Is a rule of a frame, if both may be? -/
def ofR (f : Hd) (r : Rl) : Bool := hasK r.K f.K && (al32 f.I r.I r.IM && (al8 f.D r.S r.SM && (al8 f.V r.V r.VM && al32 f.A r.A r.AM)))
def fitR (f : Hd) (d : List Nat) (r : Rl) : Bool := mayR r && (okF f d && ofR f r)
theorem okF_kind {f : Hd} {d : List Nat} (h : okF f d = true) : f.K = 1 ∨ f.K = 2 ∨ f.K = 3 := by
  cases hq : hasF f.K (d.length : Int) with
  | true => exact hasF_kind hq
  | false => simp [okF, hq] at h
theorem seven {K : Int} (h : 1 ≤ K ∧ K ≤ 7) : K = 1 ∨ K = 2 ∨ K = 3 ∨ K = 4 ∨ K = 5 ∨ K = 6 ∨ K = 7 := by omega
theorem hasK_ref {K k : Int} (h : 1 ≤ K ∧ K ≤ 7) (hk : k = 1 ∨ k = 2 ∨ k = 3) : hasK K k = ((if k = 3 then Int.tdiv K 4 else if k = 2 then Int.tmod (Int.tdiv K 2) 2 else Int.tmod K 2) == 1) := by
  rcases hk with rfl | rfl | rfl <;> rcases seven h with rfl | rfl | rfl | rfl | rfl | rfl | rfl <;> decide +kernel
theorem hasK_all {k : Int} (hk : k = 1 ∨ k = 2 ∨ k = 3) : hasK 7 k = true := by
  rcases hk with rfl | rfl | rfl <;> decide +kernel

/-! The first one. -/
def idxV (p : Rl → Bool) (L : List Rl) : Int := match L.findIdx? p with | some i => (i : Int) | none => -1
def banF (f : Hd) (d : List Nat) (L : List Rl) : Bool := okB L && okF f d
def findN (f : Hd) (d : List Nat) (L : List Rl) : Nat := if banF f d L then (L.findIdx? (ofR f)).getD 0 else 0
def findE (f : Hd) (d : List Nat) (L : List Rl) : Nat := if banF f d L then (if L.any (ofR f) then 0 else 9) else 2
def inV (f : Hd) (d : List Nat) (L : List Rl) (e : Bool) : Bool := if banF f d L then (match L.find? (ofR f) with | some r => r.N | none => e) else false
def inE (f : Hd) (d : List Nat) (L : List Rl) : Nat := if banF f d L then 0 else 2
theorem findIdx_cons (p : Rl → Bool) (r : Rl) (L : List Rl) : (r :: L).findIdx? p = if p r then some 0 else (L.findIdx? p).map (· + 1) := by
  rw [List.findIdx?_cons]
theorem first_at (p : Rl → Bool) : ∀ L : List Rl, L.any p = true → ∃ i, L.findIdx? p = some i ∧ i < L.length ∧ L.find? p = some (L.getD i dRl) ∧ p (L.getD i dRl) = true ∧ ∀ j, j < i → p (L.getD j dRl) = false := by
  intro L
  induction L with
  | nil => intro h; simp at h
  | cons r L ih =>
    intro h
    by_cases hr : p r = true
    · exact ⟨0, by rw [findIdx_cons, if_pos hr], by simp, by simp [List.find?_cons, hr], by simpa using hr, fun j hj => by omega⟩
    · have h2 : L.any p = true := by simpa [hr] using h
      obtain ⟨i, h3, h4, h5, h6, h7⟩ := ih h2
      refine ⟨i + 1, by rw [findIdx_cons, if_neg hr, h3]; rfl, by simpa using h4, by simp [List.find?_cons, hr, h5], by simpa using h6, fun j hj => ?_⟩
      cases j with
      | zero => simpa using hr
      | succ j => simpa using h7 j (by omega)
theorem none_at (p : Rl → Bool) : ∀ L : List Rl, L.any p = false → L.findIdx? p = none ∧ L.find? p = none ∧ ∀ j, j < L.length → p (L.getD j dRl) = false := by
  intro L
  induction L with
  | nil => intro _; simp
  | cons r L ih =>
    intro h
    simp only [List.any_cons, Bool.or_eq_false_iff] at h
    obtain ⟨h3, h4, h5⟩ := ih h.2
    refine ⟨by rw [findIdx_cons, h3]; simp [h.1], by simp [List.find?_cons, h.1, h4], fun j hj => ?_⟩
    cases j with
    | zero => simpa using h.1
    | succ j => simpa using h5 j (by simpa using hj)
/-- Behind the first k none, the next one is. -/
theorem first_is' (p : Rl → Bool) (L : List Rl) (k : Nat) (hk : k < L.length) (h0 : ∀ j, j < k → p (L.getD j dRl) = false) (h1 : p (L.getD k dRl) = true) : L.any p = true ∧ L.findIdx? p = some k := by
  have ha : L.any p = true := by
    rw [List.any_eq_true]
    exact ⟨L.getD k dRl, by rw [show L.getD k dRl = L[k] by simp [List.getD, hk]]; exact List.getElem_mem hk, h1⟩
  obtain ⟨i, h2, h3, _, h5, h6⟩ := first_at p L ha
  refine ⟨ha, ?_⟩
  rcases Nat.lt_trichotomy i k with h | h | h
  · rw [h0 i h] at h5; cases h5
  · rw [h2, h]
  · rw [h6 k h] at h1; cases h1
theorem none_is (p : Rl → Bool) (L : List Rl) (h0 : ∀ j, j < L.length → p (L.getD j dRl) = false) : L.any p = false ∧ L.findIdx? p = none := by
  have ha : L.any p = false := by
    cases h : L.any p with
    | false => rfl
    | true =>
      obtain ⟨i, _, h3, _, h5, _⟩ := first_at p L h
      rw [h0 i h3] at h5
      cases h5
  exact ⟨ha, (none_at p L ha).1⟩
theorem idxV_pos (p : Rl → Bool) (L : List Rl) : decide (0 ≤ idxV p L) = L.any p := by
  cases h : L.any p with
  | true =>
    obtain ⟨i, h2, _⟩ := first_at p L h
    simp [idxV, h2]
  | false => simp [idxV, (none_at p L h).1]

/-! The same but for In. -/
def twR (a b : Rl) : Bool := a.K == b.K && (a.I == b.I && (a.IM == b.IM && (a.S == b.S && (a.SM == b.SM && (a.V == b.V && (a.VM == b.VM && (a.A == b.A && a.AM == b.AM)))))))
def Rl.z (r : Rl) : Rl := { r with N := false }
theorem twR_iff (a b : Rl) : twR a b = true ↔ a.z = b.z := by
  obtain ⟨a0, a1, a2, a3, a4, a5, a6, a7, a8, a9⟩ := a
  obtain ⟨b0, b1, b2, b3, b4, b5, b6, b7, b8, b9⟩ := b
  simp [twR, Rl.z]
def eqR (a b : Rl) : Bool := twR a b && a.N == b.N
theorem eqR_iff (a b : Rl) : eqR a b = true ↔ a = b := by
  obtain ⟨a0, a1, a2, a3, a4, a5, a6, a7, a8, a9⟩ := a
  obtain ⟨b0, b1, b2, b3, b4, b5, b6, b7, b8, b9⟩ := b
  simp [eqR, twR, and_assoc]
theorem ofR_tw {f : Hd} {a b : Rl} (h : twR a b = true) : ofR f a = ofR f b := by
  have e := (twR_iff a b).1 h
  have h1 : ofR f a = ofR f a.z := rfl
  have h2 : ofR f b = ofR f b.z := rfl
  rw [h1, h2, e]
theorem twR_symm (a b : Rl) : twR a b = twR b a := by
  rw [Bool.eq_iff_iff, twR_iff, twR_iff]
  exact eq_comm
theorem twR_trans {a b c : Rl} (h : twR a b = true) (h' : twR b c = true) : twR a c = true := (twR_iff a c).2 (((twR_iff a b).1 h).trans ((twR_iff b c).1 h'))
/-- One more, if none is the same but for In. -/
def dd (acc : List Rl) (r : Rl) : List Rl := if acc.any (twR r) then acc else acc ++ [r]
def dedup (L : List Rl) : List Rl := L.foldl dd []
theorem dedup_snoc (L : List Rl) (x : Rl) : dedup (L ++ [x]) = dd (dedup L) x := by simp [dedup]
theorem snoc_ind {P : List Rl → Prop} (h0 : P []) (h1 : ∀ L x, P L → P (L ++ [x])) (L : List Rl) : P L := by
  have : ∀ n, ∀ L : List Rl, L.length = n → P L := by
    intro n
    induction n with
    | zero => intro L h; rw [List.length_eq_zero_iff.1 h]; exact h0
    | succ n ih =>
      intro L h
      have hne : L ≠ [] := by intro e; rw [e] at h; simp at h
      rw [← List.dropLast_concat_getLast hne]
      exact h1 _ _ (ih _ (by rw [List.length_dropLast]; omega))
  exact this L.length L rfl
theorem dedup_len (L : List Rl) : (dedup L).length ≤ L.length := by
  refine snoc_ind (P := fun L => (dedup L).length ≤ L.length) (Nat.le_refl _) (fun L x ih => ?_) L
  rw [dedup_snoc]
  unfold dd
  split
  · simp; omega
  · simp; omega
theorem dedup_mem {L : List Rl} : ∀ x ∈ dedup L, x ∈ L := by
  refine snoc_ind (P := fun L => ∀ x ∈ dedup L, x ∈ L) (fun x h => h) (fun L y ih x h => ?_) L
  rw [dedup_snoc] at h
  unfold dd at h
  split at h
  · exact List.mem_append_left _ (ih x h)
  · rcases List.mem_append.1 h with h | h
    · exact List.mem_append_left _ (ih x h)
    · exact List.mem_append_right _ h
theorem dedup_any (L : List Rl) : ∀ r, (dedup L).any (twR r) = L.any (twR r) := by
  refine snoc_ind (P := fun L => ∀ r, (dedup L).any (twR r) = L.any (twR r)) (fun r => rfl) (fun L x ih r => ?_) L
  rw [dedup_snoc, List.any_append, ← ih r]
  unfold dd
  split
  · rename_i h
    cases hx : twR r x with
    | false => simp [hx]
    | true =>
      obtain ⟨s, hs, ht⟩ := List.any_eq_true.1 h
      have : (dedup L).any (twR r) = true := List.any_eq_true.2 ⟨s, hs, twR_trans hx ht⟩
      simp [this]
  · rw [List.any_append]
theorem dedup_find {p : Rl → Bool} (hp : ∀ a b, twR a b = true → p a = p b) (L : List Rl) : (dedup L).find? p = L.find? p := by
  refine snoc_ind (P := fun L => (dedup L).find? p = L.find? p) rfl (fun L x ih => ?_) L
  rw [dedup_snoc, List.find?_append, ← ih]
  unfold dd
  split
  · rename_i h
    obtain ⟨s, hs, ht⟩ := List.any_eq_true.1 h
    cases hf : (dedup L).find? p with
    | some y => rfl
    | none =>
      have h1 := List.find?_eq_none.1 hf s hs
      rw [← hp x s ht] at h1
      simp [List.find?_cons, h1]
  · rw [List.find?_append]
def NoTw (L : List Rl) : Prop := L.Pairwise fun a b => twR b a = false
theorem dedup_no (L : List Rl) : NoTw (dedup L) := by
  refine snoc_ind (P := fun L => NoTw (dedup L)) List.Pairwise.nil (fun L x ih => ?_) L
  rw [dedup_snoc]
  unfold dd
  split
  · exact ih
  · rename_i h
    refine List.pairwise_append.2 ⟨ih, List.pairwise_singleton _ _, fun a ha b hb => ?_⟩
    rw [List.mem_singleton.1 hb]
    cases hq : twR x a with
    | false => rfl
    | true => exact absurd (List.any_eq_true.2 ⟨a, ha, hq⟩) h
theorem dedup_of_no {L : List Rl} : NoTw L → dedup L = L := by
  refine snoc_ind (P := fun L => NoTw L → dedup L = L) (fun _ => rfl) (fun L x ih h => ?_) L
  obtain ⟨h1, _, h3⟩ := List.pairwise_append.1 h
  rw [dedup_snoc, ih h1]
  unfold dd
  rw [if_neg]
  intro hc
  obtain ⟨s, hs, ht⟩ := List.any_eq_true.1 hc
  rw [h3 s hs x (List.mem_singleton.2 rfl)] at ht
  cases ht
/-- How many stay, if the last ones that say e go. -/
def cutN (e : Bool) (L : List Rl) : Nat → Nat
  | 0 => 0
  | k + 1 => if (L.getD k dRl).N == e then cutN e L k else k + 1
theorem cutN_le (e : Bool) (L : List Rl) : ∀ k, cutN e L k ≤ k := by
  intro k
  induction k with
  | zero => exact Nat.le_refl _
  | succ k ih =>
    unfold cutN
    split <;> omega
theorem cutN_gone (e : Bool) (L : List Rl) : ∀ k j, cutN e L k ≤ j → j < k → (L.getD j dRl).N = e := by
  intro k
  induction k with
  | zero => intro j _ h; omega
  | succ k ih =>
    intro j h1 h2
    unfold cutN at h1
    split at h1
    · rename_i h
      by_cases hj : j = k
      · subst hj; simpa using h
      · exact ih j h1 (by omega)
    · omega
theorem cutN_last (e : Bool) (L : List Rl) : ∀ k, 0 < cutN e L k → (L.getD (cutN e L k - 1) dRl).N ≠ e := by
  intro k
  induction k with
  | zero => intro h; simp [cutN] at h
  | succ k ih =>
    unfold cutN
    split
    · exact ih
    · rename_i h
      intro _
      simpa using h
def strip (e : Bool) (L : List Rl) : List Rl := L.take (cutN e L L.length)
def leastR (L : List Rl) (e : Bool) : List Rl := strip e (dedup L)
theorem strip_len (e : Bool) (L : List Rl) : (strip e L).length = cutN e L L.length := by
  unfold strip
  rw [List.length_take, Nat.min_eq_left (cutN_le e L _)]
theorem strip_find (e : Bool) (p : Rl → Bool) (L : List Rl) : (match (strip e L).find? p with | some r => r.N | none => e) = (match L.find? p with | some r => r.N | none => e) := by
  have h := List.take_append_drop (cutN e L L.length) L
  have h2 : L.find? p = ((strip e L).find? p).or ((L.drop (cutN e L L.length)).find? p) := by
    conv => lhs; rw [← h]
    rw [List.find?_append]
    rfl
  rw [h2]
  cases h3 : (strip e L).find? p with
  | some r => rfl
  | none =>
    cases h4 : (L.drop (cutN e L L.length)).find? p with
    | none => rfl
    | some r =>
      have hm := List.mem_of_find?_eq_some h4
      obtain ⟨i, hi, rfl⟩ := List.getElem_of_mem hm
      rw [List.length_drop] at hi
      have := cutN_gone e L L.length (cutN e L L.length + i) (by omega) (by omega)
      simp only [Option.none_or]
      refine this.symm.trans ?_
      simp [List.getD, show cutN e L L.length + i < L.length by omega]
theorem strip_strip (e : Bool) (L : List Rl) : strip e (strip e L) = strip e L := by
  have hl := strip_len e L
  have hle := cutN_le e L L.length
  by_cases h0 : cutN e L L.length = 0
  · have : strip e L = [] := List.length_eq_zero_iff.1 (by omega)
    rw [this]
    rfl
  · have hlast := cutN_last e L L.length (by omega)
    have hq : cutN e (strip e L) (strip e L).length = (strip e L).length := by
      obtain ⟨k, hk⟩ : ∃ k, (strip e L).length = k + 1 := ⟨(strip e L).length - 1, by omega⟩
      rw [hk]
      unfold cutN
      rw [if_neg]
      have e1 : (strip e L).getD k dRl = L.getD (cutN e L L.length - 1) dRl := by
        rw [show cutN e L L.length - 1 = k by omega]
        unfold strip
        simp [List.getD, show k < cutN e L L.length by omega]
      rw [e1]
      simpa using hlast
    show (strip e L).take (cutN e (strip e L) (strip e L).length) = strip e L
    rw [hq, List.take_length]
theorem least_mem {L : List Rl} {e : Bool} : ∀ x ∈ leastR L e, x ∈ L := fun x h => dedup_mem x (List.mem_of_mem_take h)
theorem least_len (L : List Rl) (e : Bool) : (leastR L e).length ≤ L.length := by
  unfold leastR
  rw [strip_len]
  exact Nat.le_trans (cutN_le _ _ _) (dedup_len L)
theorem least_ok {L : List Rl} (h : okB L = true) (e : Bool) : okB (leastR L e) = true := by
  obtain ⟨h1, h2⟩ := (okB_iff L).1 h
  exact (okB_iff _).2 ⟨Nat.le_trans (least_len L e) h1, fun r hr => h2 r (least_mem r hr)⟩
theorem least_least (L : List Rl) (e : Bool) : leastR (leastR L e) e = leastR L e := by
  have h : NoTw (leastR L e) := (dedup_no L).sublist (List.take_sublist _ _)
  have h2 : leastR (leastR L e) e = strip e (leastR L e) := by
    show strip e (dedup (leastR L e)) = _
    rw [dedup_of_no h]
  rw [h2]
  exact strip_strip e (dedup L)
theorem least_in (f : Hd) (d : List Nat) {L : List Rl} (h : okB L = true) (e : Bool) : inV f d (leastR L e) e = inV f d L e ∧ inE f d (leastR L e) = inE f d L := by
  have h1 := least_ok h e
  unfold inV inE banF
  rw [h, h1]
  refine ⟨?_, rfl⟩
  have h2 := strip_find e (ofR f) (dedup L)
  rw [dedup_find (fun a b hab => ofR_tw hab)] at h2
  unfold leastR
  rw [h2]
end Go.Proofs.YtaohmgklhecjbaaDoor
